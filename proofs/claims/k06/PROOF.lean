import PyProof.Rows.All
import Wide.All
import OpenK.AllK
import Wide.FinOn
import HandS.ForMost
import HandS.Exc
import HandS.ExcOwn
import HandS.WordsExc
import HandS.CallSlots
import HandS.IsInst
import HandS.FStr
import HandS.Flow
import HandS.TupAny
import HandS.ExcInit
import KE.KExcSuper
import KE.KExcIs
import KE.KIsAll
import HandS.Iter
import HandS.Text
import HandS.Small
import HandS.SlotsOwn
import PyProof.InstEq
import KE.GoesEnum
import HandS.Star
import HandS.Style
import KE.KRevSl
import HandS.Defaults
import HandS.MakeKwOnly
import PySem.Challenge.RW_laterways_k06_level_stretches
set_option Elab.async false
set_option linter.all false
set_option maxRecDepth 100000
set_option maxHeartbeats 4000000
namespace ML
open PySem L2

/-! ### values without addresses, a heap without addresses -/
inductive U where
  | non | bl (b : Bool) | int (i : Int) | str (x : Str) | tup (ws : List U) | ref (i : Nat)

inductive Cell where
  | lst (ws : List U)
  | frz (ws : List U)
  | ins (c : Nat) (fs : List (Str × U))
  | exc (c : Nat) (fs : List (Str × U))
def Cell.live : Cell → Bool
  | .frz _ => false
  | .exc _ _ => false
  | _ => true
abbrev Hm := List Cell
inductive Rz (α : Type) where
  | ok (a : α) (h : Hm)
  | ex (c : Nat) (fs : List (Str × U)) (h : Hm)
abbrev Ev := List (Option U)
/-- an expression, a test, arguments -/
abbrev ME := Ev → Hm → Option (Rz U)
abbrev MT := Ev → Hm → Option (Rz Bool)
abbrev MA := Ev → Hm → Option (Rz (List U))
/-- a def -/
abbrev MF := List U → Hm → Option (Rz U)

/-- sequence -/
def bnd {α β : Type} (x : Option (Rz α)) (k : α → Hm → Option (Rz β)) : Option (Rz β) :=
  match x with
  | some (.ok a h) => k a h
  | some (.ex c fs h) => some (.ex c fs h)
  | none => none
@[simp] theorem bnd_ok {α β : Type} (a : α) (h : Hm) (k : α → Hm → Option (Rz β)) : bnd (some (.ok a h)) k = k a h := rfl
@[simp] theorem bnd_ex {α β : Type} (c fs h) (k : α → Hm → Option (Rz β)) : bnd (some (.ex c fs h)) k = some (.ex c fs h) := rfl
@[simp] theorem bnd_none {α β : Type} (k : α → Hm → Option (Rz β)) : bnd none k = none := rfl

/-! ### what a value of the one is in the other -/
structure Gm where
  K : PySem.W.Frag
  ca : Nat → Addr

mutual
def RU (K : PySem.W.Frag) (μ : Nat → Addr) (n : Nat) (H : Hp) : U → V → Prop
  | .non, v => v = .non
  | .bl b, v => v = .bl b
  | .int i, v => v = .int i
  | .str x, v => v = .str x
  | .ref i, v => i < n ∧ v = .ref (μ i)
  | .tup ws, v => ∃ a xs, v = .ref a ∧ SqT K H a xs ∧ RUs K μ n H ws xs
def RUs (K : PySem.W.Frag) (μ : Nat → Addr) (n : Nat) (H : Hp) : List U → List V → Prop
  | [], xs => xs = []
  | w :: ws, xs => ∃ y ys, xs = y :: ys ∧ RU K μ n H w y ∧ RUs K μ n H ws ys
end

def RFs (K : PySem.W.Frag) (μ : Nat → Addr) (n : Nat) (H : Hp) : List (Str × U) → List (Str × V) → Prop
  | [], gs => gs = []
  | (f, w) :: fs, gs => ∃ y ys, gs = (f, y) :: ys ∧ RU K μ n H w y ∧ RFs K μ n H fs ys

/-- tuples stay -/
def TS0 (K : PySem.W.Frag) (H H' : Hp) : Prop := ∀ a xs, SqT K H a xs → SqT K H' a xs
theorem TS0.refl (K : PySem.W.Frag) (H : Hp) : TS0 K H H := fun _ _ h => h
theorem TS0.trans {K : PySem.W.Frag} {H H1 H2 : Hp} (a : TS0 K H H1) (b : TS0 K H1 H2) : TS0 K H H2 := fun x y h => b x y (a x y h)

mutual
theorem RU.mono {K : PySem.W.Frag} {μ μ' : Nat → Addr} {n n' : Nat} {H H' : Hp} (hm : ∀ i, i < n → μ' i = μ i) (hn : n ≤ n') (ht : TS0 K H H') : ∀ (w : U) (v : V), RU K μ n H w v → RU K μ' n' H' w v
  | .non, v, h => by simpa [RU] using h
  | .bl b, v, h => by simpa [RU] using h
  | .int i, v, h => by simpa [RU] using h
  | .str x, v, h => by simpa [RU] using h
  | .ref i, v, h => by
    simp only [RU] at h ⊢
    exact ⟨Nat.lt_of_lt_of_le h.1 hn, by rw [hm i h.1]; exact h.2⟩
  | .tup ws, v, h => by
    simp only [RU] at h ⊢
    obtain ⟨a, xs, e, s, r⟩ := h
    exact ⟨a, xs, e, ht a xs s, RUs.mono hm hn ht ws xs r⟩
theorem RUs.mono {K : PySem.W.Frag} {μ μ' : Nat → Addr} {n n' : Nat} {H H' : Hp} (hm : ∀ i, i < n → μ' i = μ i) (hn : n ≤ n') (ht : TS0 K H H') : ∀ (ws : List U) (xs : List V), RUs K μ n H ws xs → RUs K μ' n' H' ws xs
  | [], xs, h => by simpa [RUs] using h
  | w :: ws, xs, h => by
    simp only [RUs] at h ⊢
    obtain ⟨y, ys, e, r, rs⟩ := h
    exact ⟨y, ys, e, RU.mono hm hn ht w y r, RUs.mono hm hn ht ws ys rs⟩
end
theorem RFs.mono {K : PySem.W.Frag} {μ μ' : Nat → Addr} {n n' : Nat} {H H' : Hp} (hm : ∀ i, i < n → μ' i = μ i) (hn : n ≤ n') (ht : TS0 K H H') : ∀ (fs : List (Str × U)) (gs : List (Str × V)), RFs K μ n H fs gs → RFs K μ' n' H' fs gs
  | [], gs, h => by simpa [RFs] using h
  | (f, w) :: fs, gs, h => by
    simp only [RFs] at h ⊢
    obtain ⟨y, ys, e, r, rs⟩ := h
    exact ⟨y, ys, e, r.mono hm hn ht, RFs.mono hm hn ht fs ys rs⟩

theorem RUs.length {K : PySem.W.Frag} {μ : Nat → Addr} {n : Nat} {H : Hp} : ∀ {ws : List U} {xs : List V}, RUs K μ n H ws xs → xs.length = ws.length
  | [], xs, h => by simp only [RUs] at h; subst h; rfl
  | w :: ws, xs, h => by
    simp only [RUs] at h
    obtain ⟨y, ys, rfl, _, rs⟩ := h
    simp [RUs.length rs]
theorem RUs.get {K : PySem.W.Frag} {μ : Nat → Addr} {n : Nat} {H : Hp} : ∀ {ws : List U} {xs : List V} {i : Nat} {w : U}, RUs K μ n H ws xs → ws[i]? = some w → ∃ v, xs[i]? = some v ∧ RU K μ n H w v
  | [], xs, i, w, _, e => by simp at e
  | u :: ws, xs, 0, w, h, e => by
    simp only [RUs] at h
    obtain ⟨y, ys, rfl, r, _⟩ := h
    simp at e
    subst e
    exact ⟨y, rfl, r⟩
  | u :: ws, xs, i + 1, w, h, e => by
    simp only [RUs] at h
    obtain ⟨y, ys, rfl, _, rs⟩ := h
    obtain ⟨v, e1, r⟩ := RUs.get (i := i) rs (by simpa using e)
    exact ⟨v, by simpa using e1, r⟩
theorem RUs.append {K : PySem.W.Frag} {μ : Nat → Addr} {n : Nat} {H : Hp} : ∀ {ws us : List U} {xs ys : List V}, RUs K μ n H ws xs → RUs K μ n H us ys → RUs K μ n H (ws ++ us) (xs ++ ys)
  | [], us, xs, ys, h, q => by simp only [RUs] at h; subst h; exact q
  | w :: ws, us, xs, ys, h, q => by
    simp only [RUs] at h
    obtain ⟨y, zs, rfl, r, rs⟩ := h
    show RUs K μ n H (w :: (ws ++ us)) (y :: (zs ++ ys))
    simp only [RUs]
    exact ⟨y, _, rfl, r, rs.append q⟩
theorem RUs.cons {K : PySem.W.Frag} {μ : Nat → Addr} {n : Nat} {H : Hp} {w : U} {v : V} {ws : List U} {xs : List V} (r : RU K μ n H w v) (rs : RUs K μ n H ws xs) : RUs K μ n H (w :: ws) (v :: xs) := by
  simp only [RUs]
  exact ⟨v, xs, rfl, r, rs⟩
theorem RUs.nil {K : PySem.W.Frag} {μ : Nat → Addr} {n : Nat} {H : Hp} : RUs K μ n H [] [] := by simp only [RUs]
theorem RUs.set {K : PySem.W.Frag} {μ : Nat → Addr} {n : Nat} {H : Hp} {w : U} {v : V} (r : RU K μ n H w v) : ∀ {ws : List U} {xs : List V} (i : Nat), RUs K μ n H ws xs → RUs K μ n H (ws.set i w) (xs.set i v)
  | [], xs, i, h => by simp only [RUs] at h; subst h; simp [RUs]
  | u :: ws, xs, 0, h => by
    simp only [RUs] at h
    obtain ⟨y, ys, rfl, _, rs⟩ := h
    exact RUs.cons r rs
  | u :: ws, xs, i + 1, h => by
    simp only [RUs] at h
    obtain ⟨y, ys, rfl, q, rs⟩ := h
    exact RUs.cons q (RUs.set r i rs)
theorem RUs.take {K : PySem.W.Frag} {μ : Nat → Addr} {n : Nat} {H : Hp} : ∀ {ws : List U} {xs : List V} (i : Nat), RUs K μ n H ws xs → RUs K μ n H (ws.take i) (xs.take i)
  | ws, xs, 0, h => by simp [RUs]
  | [], xs, i + 1, h => by simp only [RUs] at h; subst h; simp [RUs]
  | u :: ws, xs, i + 1, h => by
    simp only [RUs] at h
    obtain ⟨y, ys, rfl, q, rs⟩ := h
    exact RUs.cons q (RUs.take i rs)
theorem RUs.drop {K : PySem.W.Frag} {μ : Nat → Addr} {n : Nat} {H : Hp} : ∀ {ws : List U} {xs : List V} (i : Nat), RUs K μ n H ws xs → RUs K μ n H (ws.drop i) (xs.drop i)
  | ws, xs, 0, h => h
  | [], xs, i + 1, h => by simp only [RUs] at h; subst h; simp [RUs]
  | u :: ws, xs, i + 1, h => by
    simp only [RUs] at h
    obtain ⟨y, ys, rfl, q, rs⟩ := h
    exact RUs.drop i rs

/-! ### cells -/
/-- a list that is read only -/
def SqF (K : PySem.W.Frag) (H : Hp) (a : Addr) (xs : List V) : Prop :=
  (∃ o, H a = some (.frz o (.lst xs))) ∨
    ∃ (o : Obj) (its : Array Value) (n : Nat), K.lookup a = some o ∧ o.cls = .type "list" ∧ o.dict = none ∧ o.data = .seq its n ∧ its.size ≤ sizeLine ∧ Vals xs its.toList
theorem SqF.sql {K : PySem.W.Frag} {H : Hp} {a : Addr} {xs : List V} (h : SqF K H a xs) : SqL K H a xs := by
  rcases h with ⟨o, h⟩ | h
  · exact .inl (.inr ⟨o, h⟩)
  · exact .inr h
/-- an exception object of the class cls at a, its own dict d -/
def ExV (cls : Value) (d : Option Addr) (a : Addr) : HO := .ext fun h => ∃ (oe : Obj) (vs : Array Value), h.get? a = some oe ∧ Zc cls d oe ∧ oe.data = .fields vs
/-- what is known of an exception's fields -/
def RX (K : PySem.W.Frag) (μ : Nat → Addr) (n : Nat) (H : Hp) (ca : Nat → Addr) (c : Nat) (fs : List (Str × U)) (cls : Value) (d : Option Addr) : Prop :=
  cls = .ref (ca c) ∧ ((fs = [] ∧ d = none) ∨ ∃ dd gs, d = some dd ∧ H dd = some (.xd gs) ∧ RFs K μ n H fs gs)
def RCell (G : Gm) (μ : Nat → Addr) (n : Nat) (H : Hp) (a : Addr) : Cell → Prop
  | .lst ws => ∃ xs, H a = some (.lst xs) ∧ RUs G.K μ n H ws xs
  | .frz ws => ∃ xs, SqF G.K H a xs ∧ RUs G.K μ n H ws xs
  | .ins c fs => ∃ dx gs, H a = some (.ins (G.ca c) dx gs) ∧ RFs G.K μ n H fs gs
  | .exc c fs => ∃ cls d, H a = some (ExV cls d a) ∧ RX G.K μ n H G.ca c fs cls d
structure HRel (G : Gm) (μ : Nat → Addr) (h : Hm) (H : Hp) : Prop where
  cell : ∀ (i : Nat) (c : Cell), h[i]? = some c → RCell G μ h.length H (μ i) c
  inj : ∀ (i j : Nat) (c d : Cell), h[i]? = some c → h[j]? = some d → c.live = true → d.live = true → μ i = μ j → i = j
/-- one step on: more cells, what was known of tuples is known -/
structure Gr (G : Gm) (μ : Nat → Addr) (h : Hm) (H : Hp) (μ' : Nat → Addr) (h' : Hm) (H' : Hp) : Prop where
  len : h.length ≤ h'.length
  mu : ∀ i, i < h.length → μ' i = μ i
  tup : TS0 G.K H H'
  rel : HRel G μ' h' H'
section
variable {G : Gm} {μ μ' μ1 μ2 : Nat → Addr} {h h' h1 h2 : Hm} {H H' H1 H2 : Hp}
theorem Gr.refl (r : HRel G μ h H) : Gr G μ h H μ h H := ⟨Nat.le_refl _, fun _ _ => rfl, TS0.refl _ _, r⟩
theorem Gr.trans (a : Gr G μ h H μ1 h1 H1) (b : Gr G μ1 h1 H1 μ2 h2 H2) : Gr G μ h H μ2 h2 H2 :=
  ⟨Nat.le_trans a.len b.len, fun i hi => (b.mu i (Nat.lt_of_lt_of_le hi a.len)).trans (a.mu i hi), a.tup.trans b.tup, b.rel⟩
theorem Gr.ru (g : Gr G μ h H μ' h' H') {w : U} {v : V} (r : RU G.K μ h.length H w v) : RU G.K μ' h'.length H' w v := RU.mono g.mu g.len g.tup w v r
theorem Gr.rus (g : Gr G μ h H μ' h' H') {ws : List U} {vs : List V} (r : RUs G.K μ h.length H ws vs) : RUs G.K μ' h'.length H' ws vs := RUs.mono g.mu g.len g.tup ws vs r
theorem Gr.rfs (g : Gr G μ h H μ' h' H') {ws : List (Str × U)} {vs : List (Str × V)} (r : RFs G.K μ h.length H ws vs) : RFs G.K μ' h'.length H' ws vs := RFs.mono g.mu g.len g.tup ws vs r
end

/-- behind a computation: whatever heap stands behind it -/
def Post {α : Type} (G : Gm) (P : (Nat → Addr) → Hm → Hp → α → Prop) (E : XK) (μ : Nat → Addr) (h : Hm) (H : Hp) (r : Option (Rz α)) : Prop :=
  match r with
  | some (.ok a h') => ∀ μ' H', Gr G μ h H μ' h' H' → P μ' h' H' a
  | some (.ex c fs h') => ∀ μ' H' cls d, Gr G μ h H μ' h' H' → RX G.K μ' h'.length H' G.ca c fs cls d → E cls d H'
  | none => False
section
variable {α β : Type} {G : Gm} {P P' : (Nat → Addr) → Hm → Hp → α → Prop} {R : (Nat → Addr) → Hm → Hp → β → Prop} {E : XK} {μ : Nat → Addr} {h : Hm} {H : Hp}
theorem Post.mono {r : Option (Rz α)} (p : Post G P E μ h H r) (k : ∀ μ' h' H' a, Gr G μ h H μ' h' H' → P μ' h' H' a → P' μ' h' H' a) : Post G P' E μ h H r := by
  cases r with
  | none => exact p
  | some r =>
    cases r with
    | ok a h' => exact fun μ' H' g => k μ' h' H' a g (p μ' H' g)
    | ex c fs h' => exact p
theorem Post.bnd {x : Option (Rz α)} {k : α → Hm → Option (Rz β)} (p : Post G R E μ h H (bnd x k)) : Post G (fun μ1 h1 H1 a => Post G R E μ1 h1 H1 (k a h1)) E μ h H x := by
  cases x with
  | none => exact p
  | some r =>
    cases r with
    | ex c fs h' => exact p
    | ok a h1 =>
      intro μ1 H1 g1
      have p : Post G R E μ h H (k a h1) := p
      show Post G R E μ1 h1 H1 (k a h1)
      cases e : k a h1 with
      | none => rw [e] at p; exact p
      | some r =>
        rw [e] at p
        cases r with
        | ok b h2 => exact fun μ2 H2 g2 => p μ2 H2 (g1.trans g2)
        | ex c fs h2 => exact fun μ2 H2 cls d g2 rx => p μ2 H2 cls d (g1.trans g2) rx
theorem Post.ok {a : α} (r : HRel G μ h H) (p : Post G P E μ h H (some (.ok a h))) : P μ h H a := p μ H (Gr.refl r)
end

/-- the slots -/
structure StOk (G : Gm) (μ : Nat → Addr) (ρ : Ev) (h : Hm) (σ : St) (H : Hp) : Prop where
  rel : HRel G μ h H
  len : ρ.length = σ.length
  slot : ∀ (i : Nat) (w : U), ρ[i]? = some (some w) → ∃ v, σ[i]? = some (some v) ∧ RU G.K μ h.length H w v
section
variable {G : Gm} {μ μ' : Nat → Addr} {ρ : Ev} {h h' : Hm} {σ : St} {H H' : Hp}
theorem StOk.on (s : StOk G μ ρ h σ H) (g : Gr G μ h H μ' h' H') : StOk G μ' ρ h' σ H' :=
  ⟨g.rel, s.len, fun i w e => by obtain ⟨v, e1, r⟩ := s.slot i w e; exact ⟨v, e1, g.ru r⟩⟩
theorem StOk.set {w : U} {v : V} (s : StOk G μ ρ h σ H) (i : Nat) (r : RU G.K μ h.length H w v) : StOk G μ (ρ.set i (some w)) h (σ.set i (some v)) H := by
  refine ⟨s.rel, by simp [s.len], fun j u e => ?_⟩
  by_cases hj : i = j
  · subst hj
    by_cases hlt : i < ρ.length
    · rw [List.getElem?_set_self hlt] at e
      cases e
      exact ⟨v, List.getElem?_set_self (by rw [← s.len]; exact hlt), r⟩
    · rw [List.getElem?_eq_none (by simpa using hlt)] at e
      cases e
  · rw [List.getElem?_set_ne hj] at e ⊢
    exact s.slot j u e
theorem StOk.unset (s : StOk G μ ρ h σ H) (i : Nat) : StOk G μ (ρ.set i none) h (σ.set i none) H := by
  refine ⟨s.rel, by simp [s.len], fun j u e => ?_⟩
  by_cases hj : i = j
  · subst hj
    by_cases hlt : i < ρ.length
    · rw [List.getElem?_set_self hlt] at e
      cases e
    · rw [List.getElem?_eq_none (by simpa using hlt)] at e
      cases e
  · rw [List.getElem?_set_ne hj] at e ⊢
    exact s.slot j u e
end

/-! ### the readings of the layer, by such computations -/
def tE (G : Gm) (Wx : WX) (m : ME) : TE := fun σ H Q => ∃ μ ρ h, StOk G μ ρ h σ H ∧ Post G (fun μ' h' H' w => ∀ v, RU G.K μ' h'.length H' w v → Q v H') (fun cls d H' => Wx cls d σ H') μ h H (m ρ h)
def tT (G : Gm) (Wx : WX) (m : MT) : TT := fun σ H Q => ∃ μ ρ h, StOk G μ ρ h σ H ∧ Post G (fun _ _ H' b => Q b H') (fun cls d H' => Wx cls d σ H') μ h H (m ρ h)
def tA (G : Gm) (Wx : WX) (m : MA) : TA := fun σ H Q => ∃ μ ρ h, StOk G μ ρ h σ H ∧ Post G (fun μ' h' H' ws => ∀ vs, RUs G.K μ' h'.length H' ws vs → Q vs H') (fun cls d H' => Wx cls d σ H') μ h H (m ρ h)

theorem _root_.L2.PE.weak {X : Cx} {e : Expr} {t t' : TE} (h : PE X e t) (w : ∀ σ H Q, t' σ H Q → t σ H Q) : PE X e t' := ⟨fun pins s σ H Q I q => h.run pins s σ H Q I (w σ H Q q)⟩
theorem _root_.L2.PT.weak {X : Cx} {e : Expr} {t t' : TT} (h : PT X e t) (w : ∀ σ H Q, t' σ H Q → t σ H Q) : PT X e t' := ⟨fun pins s σ H Q I q => h.run pins s σ H Q I (w σ H Q q)⟩
theorem _root_.L2.PW.weak {X : Cx} {e : Expr} {t t' : TT} (h : PW X e t) (w : ∀ σ H Q, t' σ H Q → t σ H Q) : PW X e t' := ⟨fun wh pins s σ H Q I q => h.run wh pins s σ H Q I (w σ H Q q)⟩
theorem _root_.L2.PA.weak {X : Cx} {es : List Expr} {t t' : TA} (h : PA X es t) (w : ∀ σ H Q, t' σ H Q → t σ H Q) : PA X es t' := ⟨fun pos pins s σ H Q I q => h.run pos pins s σ H Q I (w σ H Q q)⟩
theorem _root_.L2.PS.weak {X : Cx} {st : Stmt} {t t' : TS} (h : PS X st t) (w : ∀ D σ H, t' D σ H → t D σ H) : PS X st t' := ⟨fun pins s σ H D I q => h.run pins s σ H D I (w D σ H q)⟩
theorem _root_.L2.PSs.weak {X : Cx} {st : List Stmt} {t t' : TS} (h : PSs X st t) (w : ∀ D σ H, t' D σ H → t D σ H) : PSs X st t' := ⟨fun pins s σ H D I q => h.run pins s σ H D I (w D σ H q)⟩
end ML

set_option maxHeartbeats 4000000
namespace ML
open PySem L2
section
variable {G : Gm} {μ μ' : Nat → Addr} {h h' : Hm} {H H' : Hp} {p a : Addr} {o : HO} {c d : Cell} {n : Nat}

theorem RU.same {K : PySem.W.Frag} {μ : Nat → Addr} {n : Nat} {H H' : Hp} (ht : TS0 K H H') {w : U} {v : V} (r : RU K μ n H w v) : RU K μ n H' w v := RU.mono (fun _ _ => rfl) (Nat.le_refl _) ht w v r
theorem RUs.same {K : PySem.W.Frag} {μ : Nat → Addr} {n : Nat} {H H' : Hp} (ht : TS0 K H H') {w : List U} {v : List V} (r : RUs K μ n H w v) : RUs K μ n H' w v := RUs.mono (fun _ _ => rfl) (Nat.le_refl _) ht w v r

theorem TS0.fresh {K : PySem.W.Frag} (hp : H p = none) : TS0 K H (upd H p o) := fun a xs s => by
  rcases s with (s | ⟨ob, s⟩) | s
  · exact .inl (.inl (by rw [upd_ne (ne_of_none s hp)]; exact s))
  · exact .inl (.inr ⟨ob, by rw [upd_ne (ne_of_none s hp)]; exact s⟩)
  · exact .inr s
/-- what may be changed in its place: not what others lean on -/
def Wr : HO → Bool
  | .lst _ => true
  | .ins _ _ _ => true
  | .dK _ => true
  | .dT _ => true
  | _ => false
theorem TS0.write {K : PySem.W.Frag} {u : HO} (hp : H p = some u) (hu : Wr u = true) : TS0 K H (upd H p o) := fun a xs s => by
  have ne : ∀ {b w}, H b = some w → Wr w = false → b ≠ p := fun {b w} e q z => by
    subst z
    rw [hp] at e
    cases e
    rw [hu] at q
    cases q
  rcases s with (s | ⟨ob, s⟩) | s
  · exact .inl (.inl (by rw [upd_ne (ne s rfl)]; exact s))
  · exact .inl (.inr ⟨ob, by rw [upd_ne (ne s rfl)]; exact s⟩)
  · exact .inr s

/-- a cell's reading leans on these alone -/
theorem RCell.keep (r : RCell G μ n H a c) (hm : ∀ i, i < n → μ' i = μ i) (hn : n ≤ h'.length) (ht : TS0 G.K H H')
    (k : ∀ b u, (b = a ∨ Wr u = false) → H b = some u → H' b = some u) : RCell G μ' h'.length H' a c := by
  cases c with
  | lst ws => obtain ⟨xs, e, q⟩ := r; exact ⟨xs, k _ _ (.inl rfl) e, RUs.mono hm hn ht _ _ q⟩
  | frz ws =>
    obtain ⟨xs, e, q⟩ := r
    refine ⟨xs, ?_, RUs.mono hm hn ht _ _ q⟩
    rcases e with ⟨ob, e⟩ | e
    · exact .inl ⟨ob, k _ _ (.inl rfl) e⟩
    · exact .inr e
  | ins cn fs => obtain ⟨dx, gs, e, q⟩ := r; exact ⟨dx, gs, k _ _ (.inl rfl) e, RFs.mono hm hn ht _ _ q⟩
  | exc cn fs =>
    obtain ⟨cls, dd, e, q1, q2⟩ := r
    refine ⟨cls, dd, k _ _ (.inl rfl) e, q1, ?_⟩
    rcases q2 with q2 | ⟨d1, gs, e1, e2, q2⟩
    · exact .inl q2
    · exact .inr ⟨d1, gs, e1, k _ _ (.inr rfl) e2, RFs.mono hm hn ht _ _ q2⟩

def nu (μ : Nat → Addr) (n : Nat) (p : Addr) : Nat → Addr := fun i => if i = n then p else μ i
theorem nu_old {i : Nat} (hi : i < n) : nu μ n p i = μ i := if_neg (Nat.ne_of_lt hi)
theorem nu_new : nu μ n p n = p := if_pos rfl

theorem live_at (r : RCell G μ n H a c) (l : c.live = true) : ∃ u, H a = some u ∧ Wr u = true := by
  cases c with
  | lst ws => obtain ⟨xs, e, _⟩ := r; exact ⟨_, e, rfl⟩
  | frz ws => cases l
  | ins cn fs => obtain ⟨dx, gs, e, _⟩ := r; exact ⟨_, e, rfl⟩
  | exc cn fs => cases l

/-- a new object, a new cell -/
theorem Gr.new (r : HRel G μ h H) (hp : H p = none) (hc : RCell G (nu μ h.length p) (h.length + 1) (upd H p o) p c) : Gr G μ h H (nu μ h.length p) (h ++ [c]) (upd H p o) := by
  refine ⟨by simp, fun i hi => nu_old hi, TS0.fresh hp, ⟨fun i d e => ?_, fun i j c1 c2 e1 e2 l1 l2 q => ?_⟩⟩
  · by_cases hi : i < h.length
    · rw [List.getElem?_append_left hi] at e
      rw [nu_old hi]
      exact RCell.keep (r.cell i d e) (fun j hj => nu_old hj) (by simp) (TS0.fresh hp) fun b u _ z => by rw [upd_ne (ne_of_none z hp)]; exact z
    · have hi2 : i = h.length := by
        have := (List.getElem?_eq_some_iff.mp e).1
        simp at this
        omega
      subst hi2
      simp at e
      subst e
      rw [nu_new]
      simpa using hc
  · have cs : ∀ (i : Nat) (c1 : Cell), (h ++ [c])[i]? = some c1 → (i < h.length ∧ h[i]? = some c1) ∨ i = h.length := fun i c1 e => by
      by_cases hi : i < h.length
      · rw [List.getElem?_append_left hi] at e
        exact .inl ⟨hi, e⟩
      · have := (List.getElem?_eq_some_iff.mp e).1
        simp at this
        exact .inr (by omega)
    rcases cs i c1 e1 with ⟨hi, f1⟩ | hi <;> rcases cs j c2 e2 with ⟨hj, f2⟩ | hj
    · rw [nu_old hi, nu_old hj] at q
      exact r.inj i j c1 c2 f1 f2 l1 l2 q
    · subst hj
      rw [nu_old hi, nu_new] at q
      obtain ⟨u, e, _⟩ := live_at (r.cell i c1 f1) l1
      rw [q, hp] at e
      cases e
    · subst hi
      rw [nu_old hj, nu_new] at q
      obtain ⟨u, e, _⟩ := live_at (r.cell j c2 f2) l2
      rw [← q, hp] at e
      cases e
    · rw [hi, hj]
/-- a new object that is no cell (a tuple) -/
theorem HRel.fresh (r : HRel G μ h H) (hp : H p = none) : HRel G μ h (upd H p o) :=
  ⟨fun i d e => RCell.keep (r.cell i d e) (fun _ _ => rfl) (Nat.le_refl _) (TS0.fresh hp) fun b u _ z => by rw [upd_ne (ne_of_none z hp)]; exact z, r.inj⟩
theorem Gr.fresh (r : HRel G μ h H) (hp : H p = none) : Gr G μ h H μ h (upd H p o) := ⟨Nat.le_refl _, fun _ _ => rfl, TS0.fresh hp, r.fresh hp⟩

/-- a cell is changed -/
theorem Gr.write {i : Nat} (r : HRel G μ h H) (hi : h[i]? = some c) (hl : c.live = true) (hd : d.live = true) (hc : RCell G μ h.length (upd H (μ i) o) (μ i) d) : Gr G μ h H μ (h.set i d) (upd H (μ i) o) := by
  obtain ⟨u, e0, hu⟩ := live_at (r.cell i c hi) hl
  have hlt := (List.getElem?_eq_some_iff.mp hi).1
  refine ⟨by simp, fun _ _ => rfl, TS0.write e0 hu, ⟨fun j e q => ?_, fun j k c1 c2 e1 e2 l1 l2 q => ?_⟩⟩
  · by_cases hj : i = j
    · subst hj
      rw [List.getElem?_set_self hlt] at q
      cases q
      simpa using hc
    · rw [List.getElem?_set_ne hj] at q
      have ts := TS0.write (K := G.K) (o := o) e0 hu
      have ne : ∀ {b w}, H b = some w → Wr w = false → b ≠ μ i := fun {b w} z y q => by
        subst q
        rw [e0] at z
        cases z
        rw [hu] at y
        cases y
      have rc := r.cell j e q
      have hlen : (h.set i d).length = h.length := by simp
      rw [hlen]
      cases e with
      | lst ws =>
        obtain ⟨xs, s, rs⟩ := rc
        have hne : μ j ≠ μ i := fun z => hj (r.inj i j c _ hi q hl rfl z.symm)
        exact ⟨xs, by rw [upd_ne hne]; exact s, rs.same ts⟩
      | ins cn fs =>
        obtain ⟨dx, gs, s, rs⟩ := rc
        have hne : μ j ≠ μ i := fun z => hj (r.inj i j c _ hi q hl rfl z.symm)
        exact ⟨dx, gs, by rw [upd_ne hne]; exact s, RFs.mono (fun _ _ => rfl) (Nat.le_refl _) ts _ _ rs⟩
      | frz ws =>
        obtain ⟨xs, s, rs⟩ := rc
        refine ⟨xs, ?_, rs.same ts⟩
        rcases s with ⟨ob, s⟩ | s
        · exact .inl ⟨ob, by rw [upd_ne (ne s rfl)]; exact s⟩
        · exact .inr s
      | exc cn fs =>
        obtain ⟨cls, dd, s, q1, q2⟩ := rc
        refine ⟨cls, dd, by rw [upd_ne (ne s rfl)]; exact s, q1, ?_⟩
        rcases q2 with q2 | ⟨d1, gs, e1, e2, q2⟩
        · exact .inl q2
        · exact .inr ⟨d1, gs, e1, by rw [upd_ne (ne e2 rfl)]; exact e2, RFs.mono (fun _ _ => rfl) (Nat.le_refl _) ts _ _ q2⟩
  · have cs : ∀ (j : Nat) (c1 : Cell), (h.set i d)[j]? = some c1 → c1.live = true → ∃ c0, h[j]? = some c0 ∧ c0.live = true := fun j c1 e1 l1 => by
      by_cases hj : i = j
      · subst hj
        exact ⟨c, hi, hl⟩
      · rw [List.getElem?_set_ne hj] at e1
        exact ⟨c1, e1, l1⟩
    obtain ⟨a1, f1, g1⟩ := cs j c1 e1 l1
    obtain ⟨a2, f2, g2⟩ := cs k c2 e2 l2
    exact r.inj j k a1 a2 f1 f2 g1 g2 q
end
end ML

set_option maxHeartbeats 4000000
namespace ML
open PySem L2

/-! ### statements -/
inductive Sz where
  | nx (ρ : Ev) (h : Hm)
  | rt (w : U) (h : Hm)
  | bk (ρ : Ev) (h : Hm)
  | ct (ρ : Ev) (h : Hm)
  | ex (c : Nat) (fs : List (Str × U)) (ρ : Ev) (h : Hm)
abbrev MS := Ev → Hm → Option Sz
def bndS {α : Type} (ρ : Ev) (x : Option (Rz α)) (k : α → Hm → Option Sz) : Option Sz :=
  match x with
  | some (.ok a h) => k a h
  | some (.ex c fs h) => some (.ex c fs ρ h)
  | none => none
@[simp] theorem bndS_ok {α : Type} (ρ) (a : α) (h : Hm) (k : α → Hm → Option Sz) : bndS ρ (some (.ok a h)) k = k a h := rfl
@[simp] theorem bndS_ex {α : Type} (ρ c fs h) (k : α → Hm → Option Sz) : bndS ρ (some (.ex c fs h)) k = some (.ex c fs ρ h) := rfl
@[simp] theorem bndS_none {α : Type} (ρ) (k : α → Hm → Option Sz) : bndS ρ none k = none := rfl

def PostS (G : Gm) (Wx : WX) (D : Ends) (μ : Nat → Addr) (h : Hm) (H : Hp) (r : Option Sz) : Prop :=
  match r with
  | some (.nx ρ' h') => ∀ μ' σ' H', Gr G μ h H μ' h' H' → StOk G μ' ρ' h' σ' H' → D.nx σ' H'
  | some (.rt w h') => ∀ μ' H' v, Gr G μ h H μ' h' H' → RU G.K μ' h'.length H' w v → D.rt v H'
  | some (.bk ρ' h') => ∀ μ' σ' H', Gr G μ h H μ' h' H' → StOk G μ' ρ' h' σ' H' → D.bk σ' H'
  | some (.ct ρ' h') => ∀ μ' σ' H', Gr G μ h H μ' h' H' → StOk G μ' ρ' h' σ' H' → D.ct σ' H'
  | some (.ex c fs ρ' h') => ∀ μ' σ' H' cls d, Gr G μ h H μ' h' H' → StOk G μ' ρ' h' σ' H' → RX G.K μ' h'.length H' G.ca c fs cls d → Wx cls d σ' H'
  | none => False
def tS (G : Gm) (Wx : WX) (m : MS) : TS := fun D σ H => ∃ μ ρ h, StOk G μ ρ h σ H ∧ PostS G Wx D μ h H (m ρ h)

section
variable {α : Type} {G : Gm} {Wx : WX} {D : Ends} {μ μ' : Nat → Addr} {h h' : Hm} {H H' : Hp} {ρ : Ev} {σ : St}
theorem PostS.on {r : Option Sz} (p : PostS G Wx D μ h H r) (g : Gr G μ h H μ' h' H') : PostS G Wx D μ' h' H' r := by
  cases r with
  | none => exact p
  | some r =>
    cases r with
    | nx ρ1 h1 => exact fun μ1 σ1 H1 g1 s => p μ1 σ1 H1 (g.trans g1) s
    | rt w h1 => exact fun μ1 H1 v g1 s => p μ1 H1 v (g.trans g1) s
    | bk ρ1 h1 => exact fun μ1 σ1 H1 g1 s => p μ1 σ1 H1 (g.trans g1) s
    | ct ρ1 h1 => exact fun μ1 σ1 H1 g1 s => p μ1 σ1 H1 (g.trans g1) s
    | ex c fs ρ1 h1 => exact fun μ1 σ1 H1 cls d g1 s x => p μ1 σ1 H1 cls d (g.trans g1) s x
theorem PostS.bnd {x : Option (Rz α)} {k : α → Hm → Option Sz} (s : StOk G μ ρ h σ H) (p : PostS G Wx D μ h H (bndS ρ x k)) :
    Post G (fun μ1 h1 H1 a => PostS G Wx D μ1 h1 H1 (k a h1)) (fun cls d H' => Wx cls d σ H') μ h H x := by
  cases x with
  | none => exact p
  | some r =>
    cases r with
    | ok a h1 => exact fun μ1 H1 g1 => PostS.on (show PostS G Wx D μ h H (k a h1) from p) g1
    | ex c fs h1 => exact fun μ1 H1 cls d g1 rx => p μ1 σ H1 cls d g1 (s.on g1) rx

def mSkip : MS := fun ρ h => some (.nx ρ h)
def mSeq (a b : MS) : MS := fun ρ h => match a ρ h with
  | some (.nx ρ1 h1) => b ρ1 h1
  | r => r
def mRet (e : ME) : MS := fun ρ h => bndS ρ (e ρ h) fun w h1 => some (.rt w h1)
def mRetN : MS := fun _ h => some (.rt .non h)
def mDrop (e : ME) : MS := fun ρ h => bndS ρ (e ρ h) fun _ h1 => some (.nx ρ h1)
def mSet (i : Nat) (e : ME) : MS := fun ρ h => bndS ρ (e ρ h) fun w h1 => some (.nx (ρ.set i (some w)) h1)
def mIf (c : MT) (a b : MS) : MS := fun ρ h => bndS ρ (c ρ h) fun k h1 => if k = true then a ρ h1 else b ρ h1
def mBrk : MS := fun ρ h => some (.bk ρ h)
def mCont : MS := fun ρ h => some (.ct ρ h)

theorem StOk.refl_nx (s : StOk G μ ρ h σ H) (p : PostS G Wx D μ h H (some (.nx ρ h))) : D.nx σ H := p μ σ H (Gr.refl s.rel) s
theorem w_skip : ∀ D σ H, tS G Wx mSkip D σ H → tNext D σ H := fun D σ H ⟨μ, ρ, h, s, p⟩ => p μ σ H (Gr.refl s.rel) s
theorem PostS.seq {a b : MS} (p : PostS G Wx D μ h H (mSeq a b ρ h)) : PostS G Wx { D with nx := tS G Wx b D } μ h H (a ρ h) := by
  unfold mSeq at p
  cases e : a ρ h with
  | none => rw [e] at p; exact p
  | some r =>
    rw [e] at p
    cases r with
    | nx ρ1 h1 => exact fun μ1 σ1 H1 g1 s1 => ⟨μ1, ρ1, h1, s1, PostS.on p g1⟩
    | rt w h1 => exact p
    | bk ρ1 h1 => exact p
    | ct ρ1 h1 => exact p
    | ex c fs ρ1 h1 => exact p
theorem w_seq {a b : MS} : ∀ D σ H, tS G Wx (mSeq a b) D σ H → tSeq (tS G Wx a) (tS G Wx b) D σ H := fun D σ H ⟨μ, ρ, h, s, p⟩ => ⟨μ, ρ, h, s, p.seq⟩
theorem w_ret {e : ME} : ∀ D σ H, tS G Wx (mRet e) D σ H → tRet (tE G Wx e) D σ H := fun D σ H ⟨μ, ρ, h, s, p⟩ =>
  ⟨μ, ρ, h, s, (PostS.bnd s p).mono fun μ1 h1 H1 w g q v r => q μ1 H1 v (Gr.refl g.rel) r⟩
theorem w_retN : ∀ D σ H, tS G Wx mRetN D σ H → tRetN D σ H := fun D σ H ⟨μ, ρ, h, s, p⟩ => p μ H .non (Gr.refl s.rel) rfl
theorem w_drop {e : ME} : ∀ D σ H, tS G Wx (mDrop e) D σ H → tDrop (tE G Wx e) D σ H := fun D σ H ⟨μ, ρ, h, s, p⟩ =>
  ⟨μ, ρ, h, s, (PostS.bnd s p).mono fun μ1 h1 H1 w g q v r => q μ1 σ H1 (Gr.refl g.rel) (s.on g)⟩
theorem w_set {i : Nat} {e : ME} : ∀ D σ H, tS G Wx (mSet i e) D σ H → tAsg (tE G Wx e) (gName i) D σ H := fun D σ H ⟨μ, ρ, h, s, p⟩ =>
  ⟨μ, ρ, h, s, (PostS.bnd s p).mono fun μ1 h1 H1 w g q v r => q μ1 _ H1 (Gr.refl g.rel) ((s.on g).set i r)⟩
theorem w_if {c : MT} {a b : MS} : ∀ D σ H, tS G Wx (mIf c a b) D σ H → tIfS (tT G Wx c) (tS G Wx a) (tS G Wx b) D σ H := fun D σ H ⟨μ, ρ, h, s, p⟩ =>
  ⟨μ, ρ, h, s, (PostS.bnd s p).mono fun μ1 h1 H1 k g q => by
    cases k with
    | true => rw [if_pos rfl] at q ⊢; exact ⟨μ1, ρ, h1, s.on g, q⟩
    | false => rw [if_neg Bool.false_ne_true] at q ⊢; exact ⟨μ1, ρ, h1, s.on g, q⟩⟩
theorem w_brk : ∀ D σ H, tS G Wx mBrk D σ H → tBreak D σ H := fun D σ H ⟨μ, ρ, h, s, p⟩ => p μ σ H (Gr.refl s.rel) s
theorem w_cont : ∀ D σ H, tS G Wx mCont D σ H → tCont D σ H := fun D σ H ⟨μ, ρ, h, s, p⟩ => p μ σ H (Gr.refl s.rel) s

/-! ### targets -/
abbrev MG := U → Ev → Option Ev
def tG (G : Gm) (m : MG) : TG := fun v σ H Q => ∃ μ ρ h w ρ', StOk G μ ρ h σ H ∧ RU G.K μ h.length H w v ∧ m w ρ = some ρ' ∧ ∀ σ', StOk G μ ρ' h σ' H → Q σ' H
abbrev MGs := List U → Ev → Option Ev
def tGs (G : Gm) (m : MGs) : TGs := fun vs σ H Q => ∃ μ ρ h ws ρ', StOk G μ ρ h σ H ∧ RUs G.K μ h.length H ws vs ∧ m ws ρ = some ρ' ∧ ∀ σ', StOk G μ ρ' h σ' H → Q σ' H
theorem _root_.L2.PG.weak {X : Cx} {e : Expr} {t t' : TG} (h : PG X e t) (w : ∀ v σ H Q, t' v σ H Q → t v σ H Q) : PG X e t' := by
  obtain ⟨h⟩ := h
  exact ⟨fun pins s σ H v u Q I r q => h pins s σ H v u Q I r (w v σ H Q q)⟩
theorem _root_.L2.PGs.weak {X : Cx} {e : List Expr} {t t' : TGs} (h : PGs X e t) (w : ∀ v σ H Q, t' v σ H Q → t v σ H Q) : PGs X e t' := by
  obtain ⟨h⟩ := h
  exact ⟨fun pins s σ H v u Q I r q => h pins s σ H v u Q I r (w v σ H Q q)⟩
def gN (i : Nat) : MG := fun w ρ => some (ρ.set i (some w))
def gT (n : Nat) (g : MGs) : MG := fun w ρ => match w with
  | .tup ws => if ws.length = n then g ws ρ else none
  | _ => none
def gE : MGs := fun ws ρ => match ws with
  | [] => some ρ
  | _ => none
def gC (a : MG) (b : MGs) : MGs := fun ws ρ => match ws with
  | w :: r => match a w ρ with
    | some ρ1 => b r ρ1
    | none => none
  | [] => none
theorem w_gN {i : Nat} : ∀ v σ H Q, tG G (gN i) v σ H Q → gName i v σ H Q := fun v σ H Q ⟨μ, ρ, h, w, ρ', s, r, e, k⟩ => by
  cases e
  exact k _ (s.set i r)
theorem w_gE : ∀ v σ H Q, tGs G gE v σ H Q → gNil v σ H Q := fun v σ H Q ⟨μ, ρ, h, w, ρ', s, r, e, k⟩ => by
  cases w with
  | nil =>
    cases e
    simp only [RUs] at r
    exact ⟨r, k _ s⟩
  | cons a b => cases e
theorem w_gC {a : MG} {b : MGs} : ∀ v σ H Q, tGs G (gC a b) v σ H Q → gCons (tG G a) (tGs G b) v σ H Q := fun v σ H Q ⟨μ, ρ, h, w, ρ', s, r, e, k⟩ => by
  cases w with
  | nil => cases e
  | cons w ws =>
    simp only [RUs] at r
    obtain ⟨y, ys, rfl, r1, r2⟩ := r
    unfold gC at e
    simp only at e
    cases e1 : a w ρ with
    | none => rw [e1] at e; cases e
    | some ρ1 =>
      rw [e1] at e
      exact ⟨y, ys, rfl, μ, ρ, h, w, ρ1, s, r1, e1, fun σ1 s1 => ⟨μ, ρ1, h, ws, ρ', s1, r2, e, k⟩⟩
theorem w_gT {n : Nat} {g : MGs} : ∀ v σ H Q, tG G (gT n g) v σ H Q → gTup G.K n (tGs G g) v σ H Q := fun v σ H Q ⟨μ, ρ, h, w, ρ', s, r, e, k⟩ => by
  cases w with
  | tup ws =>
    unfold gT at e
    simp only at e
    split at e
    · rename_i hl
      simp only [RU] at r
      obtain ⟨a, xs, rfl, st, rs⟩ := r
      exact ⟨a, xs, rfl, st, (RUs.length rs).trans hl, μ, ρ, h, ws, ρ', s, rs, e, k⟩
    · cases e
  | _ => cases e
def mAsg (g : MG) (e : ME) : MS := fun ρ h => bndS ρ (e ρ h) fun w h1 => match g w ρ with
  | some ρ1 => some (.nx ρ1 h1)
  | none => none
theorem w_asg {g : MG} {e : ME} : ∀ D σ H, tS G Wx (mAsg g e) D σ H → tAsg (tE G Wx e) (tG G g) D σ H := fun D σ H ⟨μ, ρ, h, s, p⟩ =>
  ⟨μ, ρ, h, s, (PostS.bnd s p).mono fun μ1 h1 H1 w gr q v r => by
    cases e1 : g w ρ with
    | none => rw [e1] at q; exact False.elim q
    | some ρ1 =>
      rw [e1] at q
      exact ⟨μ1, ρ, h1, w, ρ1, s.on gr, r, e1, fun σ' s' => q μ1 σ' H1 (Gr.refl gr.rel) s'⟩⟩

/-! ### for -/
open Classical in
/-- over known items; chk is asked ahead of each turn and at the end -/
noncomputable def forC (chk : Hm → Prop) (g : MG) (body : MS) : List U → MS
  | [], ρ, h => if chk h then some (.nx ρ h) else none
  | w :: ws, ρ, h => if chk h then match g w ρ with
      | none => none
      | some ρ1 => match body ρ1 h with
        | some (.nx ρ2 h2) => forC chk g body ws ρ2 h2
        | some (.ct ρ2 h2) => forC chk g body ws ρ2 h2
        | some (.bk ρ2 h2) => some (.nx ρ2 h2)
        | r => r
    else none
theorem forC_nil {chk : Hm → Prop} {g : MG} {body : MS} {ρ : Ev} {h : Hm} (c : chk h) : forC chk g body [] ρ h = some (.nx ρ h) := by
  unfold forC
  rw [if_pos c]
theorem forC_cons {chk : Hm → Prop} {g : MG} {body : MS} {ρ ρ1 : Ev} {h : Hm} {w : U} {ws : List U} (c : chk h) (e : g w ρ = some ρ1) : forC chk g body (w :: ws) ρ h = (match body ρ1 h with
        | some (.nx ρ2 h2) => forC chk g body ws ρ2 h2
        | some (.ct ρ2 h2) => forC chk g body ws ρ2 h2
        | some (.bk ρ2 h2) => some (.nx ρ2 h2)
        | r => r) := by
  conv => lhs; unfold forC
  rw [if_pos c, e]

/-- what an iterator gives: the items, while chk stands -/
def Gives (G : Gm) (J : It) (items : List U) (chk : Hm → Prop) (μ1 : Nat → Addr) (h1 : Hm) (H1 : Hp) : Prop :=
  ∀ (i : Nat) μ h H, Gr G μ1 h1 H1 μ h H → chk h →
    (items.length ≤ i → J.stop i H) ∧ (∀ w, items[i]? = some w → J.go i H ∧ ∀ x H', J.yld i H x H' → Gr G μ h H μ h H' ∧ RU G.K μ h.length H' w x)
theorem for_ok {g : MG} {body : MS} {J : It} {items : List U} {chk : Hm → Prop} {μ1 : Nat → Addr} {h1 : Hm} {H1 : Hp} (gv : Gives G J items chk μ1 h1 H1) (s : StOk G μ1 ρ h1 σ H1) (p : PostS G Wx D μ1 h1 H1 (forC chk g body items ρ h1)) :
    ∃ W : Nat → Nat → St → Hp → Prop, (∃ m, W 0 m σ H1) ∧ ∀ i m σ H, W i m σ H →
      (J.stop i H ∧ D.nx σ H) ∨ (J.go i H ∧ ∃ N : St → Hp → Prop, (∀ σ' H', N σ' H' → ∃ m', m' < m ∧ W (i + 1) m' σ' H') ∧ ∀ x H', J.yld i H x H' → tG G g x σ H' fun σ2 H2 => tS G Wx body { D with nx := N, ct := N, bk := D.nx } σ2 H2) := by
  refine ⟨fun i m σ H => m = items.length - i ∧ i ≤ items.length ∧ ∃ μ ρ h, Gr G μ1 h1 H1 μ h H ∧ StOk G μ ρ h σ H ∧ PostS G Wx D μ h H (forC chk g body (items.drop i) ρ h),
    ⟨items.length, by simp, Nat.zero_le _, μ1, ρ, h1, Gr.refl s.rel, s, by simpa using p⟩, ?_⟩
  rintro i m σ H ⟨rfl, hi, μ, ρ, h, gr, s, p⟩
  by_cases hlt : i < items.length
  · have hd : items.drop i = items[i] :: items.drop (i + 1) := List.drop_eq_getElem_cons hlt
    rw [hd] at p
    unfold forC at p
    by_cases hc : chk h
    · rw [if_pos hc] at p
      obtain ⟨_, q⟩ := gv i μ h H gr hc
      obtain ⟨go, yl⟩ := q items[i] (by simp [hlt])
      cases e1 : g items[i] ρ with
      | none => rw [e1] at p; exact False.elim p
      | some ρ1 =>
        rw [e1] at p
        simp only at p
        refine .inr ⟨go, fun σ' H' => ∃ μ ρ h, Gr G μ1 h1 H1 μ h H' ∧ StOk G μ ρ h σ' H' ∧ PostS G Wx D μ h H' (forC chk g body (items.drop (i + 1)) ρ h), fun σ' H' z => ⟨items.length - (i + 1), by omega, rfl, by omega, z⟩, fun x H' y => ?_⟩
        obtain ⟨g2, r2⟩ := yl x H' y
        refine ⟨μ, ρ, h, items[i], ρ1, s.on g2, r2, e1, fun σ' s' => ⟨μ, ρ1, h, s', ?_⟩⟩
        have p := p.on g2
        cases e2 : body ρ1 h with
        | none => rw [e2] at p; exact p
        | some r =>
          rw [e2] at p
          cases r with
          | nx ρ2 h2 => exact fun μ3 σ3 H3 g3 s3 => ⟨μ3, ρ2, h2, (gr.trans g2).trans g3, s3, PostS.on p g3⟩
          | ct ρ2 h2 => exact fun μ3 σ3 H3 g3 s3 => ⟨μ3, ρ2, h2, (gr.trans g2).trans g3, s3, PostS.on p g3⟩
          | bk ρ2 h2 => exact p
          | rt w h2 => exact p
          | ex c fs ρ2 h2 => exact p
    · rw [if_neg hc] at p
      exact False.elim p
  · have e : i = items.length := by omega
    subst e
    rw [List.drop_length] at p
    unfold forC at p
    by_cases hc : chk h
    · rw [if_pos hc] at p
      exact .inl ⟨(gv _ μ h H gr hc).1 (Nat.le_refl _), p μ σ H (Gr.refl s.rel) s⟩
    · rw [if_neg hc] at p
      exact False.elim p

/-- what is walked: the items, what must stand -/
abbrev MI := Ev → Hm → Option (Rz (List U × (Hm → Prop)))
def tI (G : Gm) (Wx : WX) (m : MI) : TI := fun σ H R => ∃ μ ρ h, StOk G μ ρ h σ H ∧
  Post G (fun μ1 h1 H1 a => ∀ J, Gives G J a.1 a.2 μ1 h1 H1 → R J H1) (fun cls d H' => Wx cls d σ H') μ h H (m ρ h)
theorem _root_.L2.PI.weak {X : Cx} {tg e : Expr} {t t' : TI} (h : PI X tg e t) (w : ∀ σ H Q, t' σ H Q → t σ H Q) : PI X tg e t' := by
  obtain ⟨h⟩ := h
  exact ⟨fun pins s σ H R I q => h pins s σ H R I (w σ H R q)⟩
noncomputable def mFor (it : MI) (g : MG) (body : MS) : MS := fun ρ h => bndS ρ (it ρ h) fun a h1 => forC a.2 g body a.1 ρ h1
theorem w_for {it : MI} {g : MG} {body : MS} : ∀ D σ H, tS G Wx (mFor it g body) D σ H → tFor (tI G Wx it) (tG G g) (tS G Wx body) D σ H := fun D σ H ⟨μ, ρ, h, s, p⟩ =>
  ⟨μ, ρ, h, s, (PostS.bnd s p).mono fun μ1 h1 H1 a gr q J gv => for_ok gv (s.on gr) q⟩
def iL (e : ME) : MI := fun ρ h => bnd (e ρ h) fun w h1 => match w with
  | .ref i => match h1[i]? with
    | some (.lst ws) => some (.ok (ws, fun h => h[i]? = some (.lst ws)) h1)
    | some (.frz ws) => some (.ok (ws, fun h => h[i]? = some (.frz ws)) h1)
    | _ => none
  | _ => none
def iT (e : ME) : MI := fun ρ h => bnd (e ρ h) fun w h1 => match w with
  | .tup ws => some (.ok (ws, fun _ => True) h1)
  | _ => none
theorem rz_sqL {i : Nat} {ws : List U} (r : HRel G μ h H) (e : h[i]? = some (.lst ws) ∨ h[i]? = some (.frz ws)) : ∃ xs, SqL G.K H (μ i) xs ∧ RUs G.K μ h.length H ws xs := by
  rcases e with e | e
  · obtain ⟨xs, s, rs⟩ := r.cell _ _ e
    exact ⟨xs, SqL.of s, rs⟩
  · obtain ⟨xs, s, rs⟩ := r.cell _ _ e
    exact ⟨xs, s.sql, rs⟩
theorem sq_uniq {K : PySem.W.Frag} {a : Addr} {xs ys : List V} (h1 : SqT K H a xs) (h2 : SqT K H a ys) (n : H a ≠ none ∨ True) : True := trivial
theorem gives_list {i : Nat} {ws : List U} {c : Cell} (hc : c = .lst ws ∨ c = .frz ws) (hi : i < h.length) : Gives G (Itl G.K (μ i)) ws (fun h => h[i]? = some c) μ h H := by
  intro j μ2 h2 H2 gr ck
  have em : μ2 i = μ i := gr.mu i hi
  have e2 : h2[i]? = some (.lst ws) ∨ h2[i]? = some (.frz ws) := by
    rcases hc with rfl | rfl
    · exact .inl ck
    · exact .inr ck
  obtain ⟨xs, sq, rs⟩ := rz_sqL gr.rel e2
  rw [em] at sq
  refine ⟨fun hj => ⟨xs, sq, by rw [RUs.length rs]; exact hj⟩, fun w hw => ?_⟩
  obtain ⟨v, ev, rv⟩ := RUs.get rs hw
  refine ⟨⟨xs, v, sq, ev⟩, fun x H' y => ?_⟩
  obtain ⟨eH, y⟩ := y
  subst eH
  have := y xs sq
  rw [ev] at this
  cases this
  exact ⟨Gr.refl gr.rel, rv⟩
theorem gives_tup {a : Addr} {xs : List V} {ws : List U} (st : SqT G.K H a xs) (rs : RUs G.K μ h.length H ws xs) : Gives G (Itt G.K a) ws (fun _ => True) μ h H := by
  intro j μ2 h2 H2 gr ck
  have sq := gr.tup a xs st
  have rs := gr.rus rs
  refine ⟨fun hj => ⟨xs, sq, by rw [RUs.length rs]; exact hj⟩, fun w hw => ?_⟩
  obtain ⟨v, ev, rv⟩ := RUs.get rs hw
  refine ⟨⟨xs, v, sq, ev⟩, fun x H' y => ?_⟩
  obtain ⟨eH, y⟩ := y
  subst eH
  have := y xs sq
  rw [ev] at this
  cases this
  exact ⟨Gr.refl gr.rel, rv⟩
theorem w_iL {e : ME} : ∀ σ H R, tI G Wx (iL e) σ H R → iList G.K (tE G Wx e) σ H R := fun σ H R ⟨μ, ρ, h, s, p⟩ =>
  ⟨μ, ρ, h, s, (Post.bnd p).mono fun μ1 h1 H1 w g q v r => by
    cases w with
    | ref i =>
      simp only at q
      simp only [RU] at r
      obtain ⟨hi, rfl⟩ := r
      cases ec : h1[i]? with
      | none => rw [ec] at q; exact False.elim q
      | some c =>
        rw [ec] at q
        cases c with
        | lst ws =>
          obtain ⟨xs, sq, rs⟩ := rz_sqL g.rel (.inl ec)
          exact ⟨μ1 i, rfl, ⟨xs, sq⟩, q μ1 H1 (Gr.refl g.rel) _ (gives_list (.inl rfl) hi)⟩
        | frz ws =>
          obtain ⟨xs, sq, rs⟩ := rz_sqL g.rel (.inr ec)
          exact ⟨μ1 i, rfl, ⟨xs, sq⟩, q μ1 H1 (Gr.refl g.rel) _ (gives_list (.inr rfl) hi)⟩
        | ins _ _ => exact False.elim q
        | exc _ _ => exact False.elim q
    | _ => exact False.elim q⟩
theorem w_iT {e : ME} : ∀ σ H R, tI G Wx (iT e) σ H R → iTup G.K (tE G Wx e) σ H R := fun σ H R ⟨μ, ρ, h, s, p⟩ =>
  ⟨μ, ρ, h, s, (Post.bnd p).mono fun μ1 h1 H1 w g q v r => by
    cases w with
    | tup ws =>
      simp only at q
      simp only [RU] at r
      obtain ⟨a, xs, rfl, st, rs⟩ := r
      exact ⟨a, rfl, ⟨xs, st⟩, q μ1 H1 (Gr.refl g.rel) _ (gives_tup st rs)⟩
    | _ => exact False.elim q⟩
end
end ML

set_option maxHeartbeats 4000000
namespace ML
open PySem L2
section
variable {G : Gm} {Wx : WX} {μ μ' : Nat → Addr} {h h' : Hm} {H H' : Hp} {ρ : Ev} {σ : St}

/-! ### names, constants -/
def mVar (i : Nat) : ME := fun ρ h => match ρ[i]? with
  | some (some w) => some (.ok w h)
  | _ => none
def mC (w : U) : ME := fun _ h => some (.ok w h)
theorem w_var {i : Nat} : ∀ σ H Q, tE G Wx (mVar i) σ H Q → tVar i σ H Q := fun σ H Q ⟨μ, ρ, h, s, p⟩ => by
  unfold mVar at p
  cases e : ρ[i]? with
  | none => rw [e] at p; exact False.elim p
  | some o =>
    rw [e] at p
    cases o with
    | none => exact False.elim p
    | some w =>
      obtain ⟨v, ev, r⟩ := s.slot i w e
      exact ⟨v, ev, Post.ok s.rel p v r⟩
theorem w_non : ∀ σ H Q, tE G Wx (mC .non) σ H Q → tC .non σ H Q := fun σ H Q ⟨μ, ρ, h, s, p⟩ => Post.ok s.rel p _ rfl
theorem w_int {i : Int} : ∀ σ H Q, tE G Wx (mC (.int i)) σ H Q → tC (.int i) σ H Q := fun σ H Q ⟨μ, ρ, h, s, p⟩ => Post.ok s.rel p _ rfl
theorem w_bl {i : Bool} : ∀ σ H Q, tE G Wx (mC (.bl i)) σ H Q → tC (.bl i) σ H Q := fun σ H Q ⟨μ, ρ, h, s, p⟩ => Post.ok s.rel p _ rfl
theorem w_str {i : Str} : ∀ σ H Q, tE G Wx (mC (.str i)) σ H Q → tC (.str i) σ H Q := fun σ H Q ⟨μ, ρ, h, s, p⟩ => Post.ok s.rel p _ rfl

/-! ### operations of values -/
abbrev O2 := U → U → Hm → Option (Rz U)
def PV (G : Gm) (Q : VK) : (Nat → Addr) → Hm → Hp → U → Prop := fun μ' h' H' w => ∀ v, RU G.K μ' h'.length H' w v → Q v H'
def OpC (G : Gm) (f : O2) (r : R2) : Prop := ∀ (E : XK) μ h H wx wy x y Q, HRel G μ h H → RU G.K μ h.length H wx x → RU G.K μ h.length H wy y → Post G (PV G Q) E μ h H (f wx wy h) → r x y H Q
def mOp (f : O2) (a b : ME) : ME := fun ρ h => bnd (a ρ h) fun x h1 => bnd (b ρ h1) fun y h2 => f x y h2
theorem w_op {f : O2} {r : R2} {a b : ME} (c : OpC G f r) : ∀ σ H Q, tE G Wx (mOp f a b) σ H Q → tOp r (tE G Wx a) (tE G Wx b) σ H Q := fun σ H Q ⟨μ, ρ, h, s, p⟩ =>
  ⟨μ, ρ, h, s, (Post.bnd p).mono fun μ1 h1 H1 wx g1 q1 x rx => ⟨μ1, ρ, h1, s.on g1, (Post.bnd q1).mono fun μ2 h2 H2 wy g2 q2 y ry => c _ μ2 h2 H2 wx wy x y Q g2.rel (g2.ru rx) ry q2⟩⟩
theorem OpC.or {f g : O2} {r r' : R2} (c : OpC G f r) (d : OpC G g r') : OpC G (fun x y h => match f x y h with | some z => some z | none => g x y h) (fun x y H Q => r x y H Q ∨ r' x y H Q) := fun E μ h H wx wy x y Q rel rx ry p => by
  cases e : f wx wy h with
  | none => simp only [e] at p; exact .inr (d E μ h H wx wy x y Q rel rx ry p)
  | some z => simp only [e] at p; exact .inl (c E μ h H wx wy x y Q rel rx ry (by rw [e]; exact p))

/-- two whole numbers -/
def oI (C : Int → Int → Bool) (g : Int → Int → U) : O2 := fun x y h => match x, y with
  | .int i, .int j => if C i j = true then some (.ok (g i j) h) else none
  | _, _ => none
theorem oI_ok {C : Int → Int → Bool} {g : Int → Int → U} {D : Int → Int → Prop} {g' : Int → Int → V} (hd : ∀ i j, C i j = true → D i j) (hg : ∀ i j K μ n H, RU K μ n H (g i j) (g' i j)) : OpC G (oI C g) (rI D g') := fun E μ h H wx wy x y Q rel rx ry p => by
  cases wx with
  | int i =>
    cases wy with
    | int j =>
      simp only [RU] at rx ry
      subst rx ry
      unfold oI at p
      simp only at p
      split at p
      · rename_i hc
        exact ⟨i, j, rfl, rfl, hd i j hc, Post.ok rel p _ (hg i j _ _ _ _)⟩
      · exact False.elim p
    | _ => exact False.elim p
  | _ => exact False.elim p
def oI0 (g : Int → Int → U) : O2 := fun x y h => match x, y with
  | .int i, .int j => some (.ok (g i j) h)
  | _, _ => none
theorem oI0_ok {g : Int → Int → U} {g' : Int → Int → V} (hg : ∀ i j K μ n H, RU K μ n H (g i j) (g' i j)) : OpC G (oI0 g) (rI0 g') := fun E μ h H wx wy x y Q rel rx ry p => by
  cases wx with
  | int i =>
    cases wy with
    | int j =>
      simp only [RU] at rx ry
      subst rx ry
      exact ⟨i, j, rfl, rfl, Post.ok rel p _ (hg i j _ _ _ _)⟩
    | _ => exact False.elim p
  | _ => exact False.elim p
abbrev oAddI : O2 := oI0 fun i j => .int (i + j)
abbrev oSub : O2 := oI0 fun i j => .int (i - j)
def cMul (i j : Int) : Bool := (decide (-(2 ^ 64) < i) && decide (i < 2 ^ 64)) || (decide (-(2 ^ 64) < j) && decide (j < 2 ^ 64))
def cDivN (i j : Int) : Bool := decide (j ≠ 0) && decide (j.natAbs < 1073741824)
def cPow (i j : Int) : Bool := decide (0 ≤ j) && (decide (j ≤ 1000000) && decide (i.natAbs < 2 ^ 64))
abbrev oMul : O2 := oI cMul fun i j => .int (i * j)
abbrev oDiv : O2 := oI cDivN fun i j => .int (i.fdiv j)
abbrev oMod : O2 := oI (fun _ j => decide (j ≠ 0)) fun i j => .int (i.fmod j)
abbrev oPow : O2 := oI cPow fun i j => .int (i ^ j.toNat)
theorem oAddI_ok : OpC G oAddI (rI0 fun i j => .int (i + j)) := oI0_ok fun _ _ _ _ _ _ => rfl
theorem oSub_ok : OpC G oSub (rI0 fun i j => .int (i - j)) := oI0_ok fun _ _ _ _ _ _ => rfl
theorem oMul_ok : OpC G oMul (rI CMul fun i j => .int (i * j)) := oI_ok (fun i j hc => by
  unfold cMul at hc
  simp only [Bool.or_eq_true, Bool.and_eq_true, decide_eq_true_eq] at hc
  exact hc) fun _ _ _ _ _ _ => rfl
theorem oDiv_ok : OpC G oDiv (rI CDivN fun i j => .int (i.fdiv j)) := oI_ok (fun i j hc => by
  unfold cDivN at hc
  simp only [Bool.and_eq_true, decide_eq_true_eq] at hc
  exact hc) fun _ _ _ _ _ _ => rfl
theorem oMod_ok : OpC G oMod (rI (fun _ j => j ≠ 0) fun i j => .int (i.fmod j)) := oI_ok (fun i j hc => of_decide_eq_true hc) fun _ _ _ _ _ _ => rfl
theorem oPow_ok : OpC G oPow (rI CPow fun i j => .int (i ^ j.toNat)) := oI_ok (fun i j hc => by
  unfold cPow at hc
  simp only [Bool.and_eq_true, decide_eq_true_eq] at hc
  exact hc) fun _ _ _ _ _ _ => rfl
abbrev oLt : O2 := oI0 fun i j => .bl (decide (i < j))
abbrev oLe : O2 := oI0 fun i j => .bl (decide (i ≤ j))
abbrev oGt : O2 := oI0 fun i j => .bl (decide (j < i))
abbrev oGe : O2 := oI0 fun i j => .bl (decide (j ≤ i))
theorem oLt_ok : OpC G oLt (rI0 fun i j => .bl (decide (i < j))) := oI0_ok fun _ _ _ _ _ _ => rfl
theorem oLe_ok : OpC G oLe (rI0 fun i j => .bl (decide (i ≤ j))) := oI0_ok fun _ _ _ _ _ _ => rfl
theorem oGt_ok : OpC G oGt (rI0 fun i j => .bl (decide (j < i))) := oI0_ok fun _ _ _ _ _ _ => rfl
theorem oGe_ok : OpC G oGe (rI0 fun i j => .bl (decide (j ≤ i))) := oI0_ok fun _ _ _ _ _ _ => rfl

def LIM : Nat := 1000000
theorem lim_le {n : Nat} (h : n ≤ LIM) : n ≤ sizeLine := Nat.le_trans h (by show 1000000 ≤ sizeLine; decide)
/-- texts -/
def oAddS : O2 := fun x y h => match x, y with
  | .str i, .str j => if i.length + j.length ≤ LIM then some (.ok (.str (i ++ j)) h) else none
  | _, _ => none
theorem oAddS_ok : OpC G oAddS (fun x y H Q => ∃ i j, x = .str i ∧ y = .str j ∧ i.length + j.length ≤ sizeLine ∧ Q (.str (i ++ j)) H) := fun E μ h H wx wy x y Q rel rx ry p => by
  cases wx with
  | str i =>
    cases wy with
    | str j =>
      simp only [RU] at rx ry
      subst rx ry
      unfold oAddS at p
      simp only at p
      split at p
      · rename_i hc
        exact ⟨i, j, rfl, rfl, lim_le hc, Post.ok rel p _ rfl⟩
      · exact False.elim p
    | _ => exact False.elim p
  | _ => exact False.elim p
/-- lists -/
def oAddL : O2 := fun x y h => match x, y with
  | .ref l, .ref b => match h[l]?, h[b]? with
    | some (.lst xs), some (.lst ys) => if xs.length + ys.length ≤ LIM then some (.ok (.ref h.length) (h ++ [.lst (xs ++ ys)])) else none
    | _, _ => none
  | _, _ => none
theorem oAddL_ok : OpC G oAddL rCat := fun E μ h H wx wy x y Q rel rx ry p => by
  cases wx with
  | ref l =>
    cases wy with
    | ref b =>
      simp only [RU] at rx ry
      obtain ⟨hl, rfl⟩ := rx
      obtain ⟨hb, rfl⟩ := ry
      unfold oAddL at p
      simp only at p
      split at p
      · rename_i xs ys e1 e2
        split at p
        · rename_i hc
          obtain ⟨vs, s1, r1⟩ := rel.cell l _ e1
          obtain ⟨us, s2, r2⟩ := rel.cell b _ e2
          refine ⟨μ l, μ b, vs, us, rfl, rfl, s1, s2, by rw [RUs.length r1, RUs.length r2]; exact lim_le hc, fun q hq => ?_⟩
          have rr : RUs G.K (nu μ h.length q) (h.length + 1) (upd H q (.lst (vs ++ us))) (xs ++ ys) (vs ++ us) := RUs.mono (fun i hi => nu_old hi) (Nat.le_succ _) (TS0.fresh hq) _ _ (r1.append r2)
          have g := Gr.new (o := .lst (vs ++ us)) (c := .lst (xs ++ ys)) rel hq ⟨_, upd_same, rr⟩
          exact p _ _ g _ (by simp only [RU]; exact ⟨by simp, by rw [nu_new]⟩)
        · exact False.elim p
      · exact False.elim p
    | _ => exact False.elim p
  | _ => exact False.elim p
/-- list * int -/
def oRep : O2 := fun x y h => match x, y with
  | .ref l, .int k => match h[l]? with
    | some (.lst xs) => if (decide (k ≤ 1000000) && decide (-1000000 ≤ k)) && decide (xs.length * k.toNat ≤ LIM) = true then some (.ok (.ref h.length) (h ++ [.lst (List.replicate k.toNat xs).flatten])) else none
    | _ => none
  | _, _ => none
theorem RUs.rep {K : PySem.W.Frag} {n : Nat} {ws : List U} {xs : List V} (r : RUs K μ n H ws xs) : ∀ k : Nat, RUs K μ n H (List.replicate k ws).flatten (List.replicate k xs).flatten
  | 0 => by simp [RUs]
  | k + 1 => by
    simp only [List.replicate_succ, List.flatten_cons]
    exact r.append (RUs.rep r k)
theorem oRep_ok : OpC G oRep rRep := fun E μ h H wx wy x y Q rel rx ry p => by
  cases wx with
  | ref l =>
    cases wy with
    | int k =>
      simp only [RU] at rx ry
      obtain ⟨hl, rfl⟩ := rx
      subst ry
      unfold oRep at p
      simp only at p
      split at p
      · rename_i xs e1
        split at p
        · rename_i hc
          simp only [Bool.and_eq_true, decide_eq_true_eq] at hc
          obtain ⟨vs, s1, r1⟩ := rel.cell l _ e1
          refine ⟨μ l, k, vs, rfl, rfl, s1, by omega, by omega, by rw [RUs.length r1]; exact lim_le hc.2, fun q hq => ?_⟩
          have rr := RUs.mono (μ' := nu μ h.length q) (n' := h.length + 1) (H' := upd H q (.lst (List.replicate k.toNat vs).flatten)) (fun i hi => nu_old hi) (Nat.le_succ _) (TS0.fresh hq) _ _ (r1.rep k.toNat)
          have g := Gr.new (o := .lst (List.replicate k.toNat vs).flatten) (c := .lst (List.replicate k.toNat xs).flatten) rel hq ⟨_, upd_same, rr⟩
          exact p _ _ g _ (by simp only [RU]; exact ⟨by simp, by rw [nu_new]⟩)
        · exact False.elim p
      · exact False.elim p
    | _ => exact False.elim p
  | _ => exact False.elim p
/-- tuples -/
def oAddT : O2 := fun x y h => match x, y with
  | .tup xs, .tup ys => if (decide (xs.length ≠ 0) && decide (xs.length + ys.length ≤ LIM)) = true then some (.ok (.tup (xs ++ ys)) h) else none
  | _, _ => none
end
end ML

set_option maxHeartbeats 4000000
namespace ML
open PySem L2
section
variable {G : Gm} {Wx : WX} {μ μ' : Nat → Addr} {h h' : Hm} {H H' : Hp} {ρ : Ev} {σ : St}

/-! ### == of scalars -/
def sEq : U → U → Option Bool
  | .non, .non => some true
  | .non, .int _ => some false | .int _, .non => some false
  | .non, .bl _ => some false | .bl _, .non => some false
  | .non, .str _ => some false | .str _, .non => some false
  | .int a, .int b => some (decide (a = b))
  | .bl a, .bl b => some (decide (a = b))
  | .str a, .str b => some (decide (a = b))
  | .int _, .str _ => some false | .str _, .int _ => some false
  | .bl _, .str _ => some false | .str _, .bl _ => some false
  | _, _ => none
theorem sEq_ok {K : PySem.W.Frag} {n : Nat} {x y : U} {v u : V} {b : Bool} (e : sEq x y = some b) (rx : RU K μ n H x v) (ry : RU K μ n H y u) : scal v u = true ∧ decide (v = u) = b := by
  cases x <;> cases y <;> first | (cases e; done) | skip
  all_goals
    simp only [RU] at rx ry
    subst rx ry
    simp only [sEq, Option.some.injEq] at e
    subst e
    refine ⟨rfl, ?_⟩
    first
      | rfl
      | (simp; done)
def oEqS (neg : Bool) : O2 := fun x y h => match sEq x y with
  | some b => some (.ok (.bl (b != neg)) h)
  | none => none
theorem oEqS_ok : OpC G (oEqS false) rEq := fun E μ h H wx wy x y Q rel rx ry p => by
  unfold oEqS at p
  cases e : sEq wx wy with
  | none => rw [e] at p; exact False.elim p
  | some b =>
    rw [e] at p
    obtain ⟨h1, h2⟩ := sEq_ok e rx ry
    refine ⟨h1, Post.ok rel p _ ?_⟩
    rw [h2]
    cases b <;> rfl
theorem oNeS_ok : OpC G (oEqS true) rNe := fun E μ h H wx wy x y Q rel rx ry p => by
  unfold oEqS at p
  cases e : sEq wx wy with
  | none => rw [e] at p; exact False.elim p
  | some b =>
    rw [e] at p
    obtain ⟨h1, h2⟩ := sEq_ok e rx ry
    refine ⟨h1, Post.ok rel p _ ?_⟩
    rw [h2]
    cases b <;> rfl

/-! ### == of data -/
mutual
def dW (f : Nat → Option PyData) : U → Option PyData
  | .non => some .none
  | .bl b => some (.bool b)
  | .int i => some (.int i)
  | .str x => some (.str x)
  | .ref i => f i
  | .tup ws => match dWs f ws with
    | some ds => some (.tuple ds)
    | none => none
def dWs (f : Nat → Option PyData) : List U → Option (List PyData)
  | [] => some []
  | w :: ws => match dW f w, dWs f ws with
    | some d, some ds => some (d :: ds)
    | _, _ => none
end
def rd (h : Hm) (i : Nat) : Option (List U) := match h[i]? with
  | some (.lst ws) => some ws
  | some (.frz ws) => some ws
  | _ => none
theorem rd_ok {i : Nat} {ws : List U} (r : HRel G μ h H) (e : rd h i = some ws) : ∃ xs, SqL G.K H (μ i) xs ∧ RUs G.K μ h.length H ws xs := by
  unfold rd at e
  split at e
  · rename_i ws' ec; cases e; exact rz_sqL r (.inl ec)
  · rename_i ws' ec; cases e; exact rz_sqL r (.inr ec)
  · cases e
/-- data at a list: n levels of lists -/
def dR : Nat → Hm → Nat → Option PyData
  | 0, _, _ => none
  | n + 1, h, i => match rd h i with
    | some ws => match dWs (dR n h) ws with
      | some ds => some (.list ds)
      | none => none
    | none => none
def DF (G : Gm) (μ : Nat → Addr) (H : Hp) (f : Nat → Option PyData) : Prop := ∀ i d, f i = some d → Dp G.K H (.ref (μ i)) d
mutual
theorem dW_ok {f : Nat → Option PyData} (hf : DF G μ H f) : ∀ (w : U) (v : V) (d : PyData), dW f w = some d → RU G.K μ h.length H w v → Dp G.K H v d
  | .non, v, d, e, r => by simp only [dW] at e; simp only [RU] at r; cases e; subst r; exact .non
  | .bl b, v, d, e, r => by simp only [dW] at e; simp only [RU] at r; cases e; subst r; exact .bl b
  | .int i, v, d, e, r => by simp only [dW] at e; simp only [RU] at r; cases e; subst r; exact .int i
  | .str x, v, d, e, r => by simp only [dW] at e; simp only [RU] at r; cases e; subst r; exact .str x
  | .ref i, v, d, e, r => by
    simp only [dW] at e
    simp only [RU] at r
    obtain ⟨_, rfl⟩ := r
    exact hf i d e
  | .tup ws, v, d, e, r => by
    simp only [dW] at e
    simp only [RU] at r
    obtain ⟨a, xs, rfl, st, rs⟩ := r
    cases e2 : dWs f ws with
    | none => rw [e2] at e; cases e
    | some ds => rw [e2] at e; cases e; exact .tup st (dWs_ok hf ws xs ds e2 rs)
theorem dWs_ok {f : Nat → Option PyData} (hf : DF G μ H f) : ∀ (ws : List U) (vs : List V) (ds : List PyData), dWs f ws = some ds → RUs G.K μ h.length H ws vs → DpAll G.K H vs ds
  | [], vs, ds, e, r => by simp only [dWs] at e; simp only [RUs] at r; cases e; subst r; exact .nil
  | w :: ws, vs, ds, e, r => by
    simp only [dWs] at e
    simp only [RUs] at r
    obtain ⟨y, ys, rfl, r1, rs⟩ := r
    cases e1 : dW f w with
    | none => rw [e1] at e; cases e
    | some d =>
      cases e2 : dWs f ws with
      | none => rw [e1, e2] at e; cases e
      | some ds2 =>
        rw [e1, e2] at e
        cases e
        exact .cons (dW_ok hf w y d e1 r1) (dWs_ok hf ws ys ds2 e2 rs)
end
theorem dR_ok (rel : HRel G μ h H) : ∀ n, DF G μ H (dR n h)
  | 0, i, d, e => by cases e
  | n + 1, i, d, e => by
    unfold dR at e
    cases e1 : rd h i with
    | none => rw [e1] at e; cases e
    | some ws =>
      rw [e1] at e
      simp only at e
      cases e2 : dWs (dR n h) ws with
      | none => rw [e2] at e; cases e
      | some ds =>
        rw [e2] at e
        cases e
        obtain ⟨xs, sq, rs⟩ := rd_ok rel e1
        exact .lst sq (dWs_ok (h := h) (dR_ok rel n) ws xs ds e2 rs)
/-- n levels of lists -/
def oEqD (neg : Bool) (n : Nat) : O2 := fun x y h => match dW (dR n h) x, dW (dR n h) y with
  | some d, some e => if (SeqAt.shaped d && SeqAt.shaped e) = true then some (.ok (.bl (PyData.eqv d e != neg)) h) else none
  | _, _ => none
theorem oEqD_ok {n : Nat} : OpC G (oEqD false n) (rEqD G.K) := fun E μ h H wx wy x y Q rel rx ry p => by
  unfold oEqD at p
  split at p
  · rename_i d e e1 e2
    split at p
    · rename_i hc
      simp only [Bool.and_eq_true] at hc
      refine ⟨d, e, dW_ok (dR_ok rel n) _ _ _ e1 rx, dW_ok (dR_ok rel n) _ _ _ e2 ry, hc.1, hc.2, Post.ok rel p _ ?_⟩
      simp [RU]
    · exact False.elim p
  · exact False.elim p
theorem oNeD_ok {n : Nat} : OpC G (oEqD true n) (rNeD G.K) := fun E μ h H wx wy x y Q rel rx ry p => by
  unfold oEqD at p
  split at p
  · rename_i d e e1 e2
    split at p
    · rename_i hc
      simp only [Bool.and_eq_true] at hc
      refine ⟨d, e, dW_ok (dR_ok rel n) _ _ _ e1 rx, dW_ok (dR_ok rel n) _ _ _ e2 ry, hc.1, hc.2, Post.ok rel p _ ?_⟩
      simp [RU]
    · exact False.elim p
  · exact False.elim p

/-! ### is None -/
def isNon : U → Bool
  | .non => true
  | _ => false
theorem isNon_ok {K : PySem.W.Frag} {n : Nat} {x : U} {v : V} (r : RU K μ n H x v) : decide (v = .non) = isNon x := by
  cases x <;> simp only [RU] at r
  case ref i => obtain ⟨_, rfl⟩ := r; simp [isNon]
  case tup ws => obtain ⟨a, xs, rfl, _⟩ := r; simp [isNon]
  all_goals (subst r; simp [isNon])
def mIsN (neg : Bool) (a : ME) : ME := fun ρ h => bnd (a ρ h) fun x h1 => some (.ok (.bl (isNon x != neg)) h1)
theorem w_isN {a : ME} : ∀ σ H Q, tE G Wx (mIsN false a) σ H Q → tIsN (tE G Wx a) σ H Q := fun σ H Q ⟨μ, ρ, h, s, p⟩ =>
  ⟨μ, ρ, h, s, (Post.bnd p).mono fun μ1 h1 H1 wx g q x rx => Post.ok g.rel q _ (by rw [isNon_ok rx]; simp [RU])⟩
theorem w_notN {a : ME} : ∀ σ H Q, tE G Wx (mIsN true a) σ H Q → tNotN (tE G Wx a) σ H Q := fun σ H Q ⟨μ, ρ, h, s, p⟩ =>
  ⟨μ, ρ, h, s, (Post.bnd p).mono fun μ1 h1 H1 wx g q x rx => Post.ok g.rel q _ (by rw [isNon_ok rx]; simp [RU])⟩

/-! ### in -/
/-- one sign in a text -/
def oInC (neg : Bool) : O2 := fun x y h => match x, y with
  | .str a, .str z => match a.cps.toList with
    | [c] => some (.ok (.bl (decide (c ∈ z.cps.toList) != neg)) h)
    | _ => none
  | _, _ => none
theorem str_one {a : Str} {c : Nat} (e : a.cps.toList = [c]) : a = ⟨#[c]⟩ := by
  cases a with
  | mk cps =>
    simp only at e
    congr
    have : cps = [c].toArray := by rw [← e]
    rw [this]
theorem oInC_ok : OpC G (oInC false) (fun x y H Q => ∃ (c : Nat) (z : Str), x = .str ⟨#[c]⟩ ∧ y = .str z ∧ Q (.bl (decide (c ∈ z.cps.toList))) H) := fun E μ h H wx wy x y Q rel rx ry p => by
  cases wx with
  | str a =>
    cases wy with
    | str z =>
      simp only [RU] at rx ry
      subst rx ry
      unfold oInC at p
      simp only at p
      split at p
      · rename_i c e
        refine ⟨c, z, by rw [str_one e], rfl, Post.ok rel p _ (by simp [RU])⟩
      · exact False.elim p
    | _ => exact False.elim p
  | _ => exact False.elim p
def flatU : U → Bool
  | .non => true | .bl _ => true | .int _ => true | .str _ => true
  | _ => false
def eqF : U → U → Bool
  | .non, .non => true
  | .bl a, .bl b => a == b
  | .bl a, .int b => (if a then 1 else 0) == b
  | .int a, .bl b => a == (if b then 1 else 0)
  | .int a, .int b => a == b
  | .str a, .str b => a == b
  | _, _ => false
theorem flatU_ok {K : PySem.W.Frag} {n : Nat} {x : U} {v : V} (f : flatU x = true) (r : RU K μ n H x v) : flatV v = true := by
  cases x <;> simp only [RU] at r <;> first | (subst r; rfl) | cases f
theorem flats_ok {K : PySem.W.Frag} {n : Nat} : ∀ {ws : List U} {vs : List V}, ws.all flatU = true → RUs K μ n H ws vs → vs.all flatV = true
  | [], vs, f, r => by simp only [RUs] at r; subst r; rfl
  | w :: ws, vs, f, r => by
    simp only [RUs] at r
    obtain ⟨y, ys, rfl, r1, rs⟩ := r
    simp only [List.all_cons, Bool.and_eq_true] at f ⊢
    exact ⟨flatU_ok f.1 r1, flats_ok f.2 rs⟩
theorem eqF_ok {K : PySem.W.Frag} {n : Nat} {x y : U} {v u : V} (f : flatU x = true) (g : flatU y = true) (r : RU K μ n H x v) (q : RU K μ n H y u) : eqV v u = eqF x y := by
  cases x <;> first | cases f | skip
  all_goals (cases y <;> first | cases g | skip)
  all_goals (simp only [RU] at r q; subst r q; rfl)
def inF (x : U) (ws : List U) : Bool := ws.any fun y => eqF y x
theorem inF_ok {K : PySem.W.Frag} {n : Nat} {x : U} {v : V} (f : flatU x = true) (r : RU K μ n H x v) : ∀ {ws : List U} {vs : List V}, ws.all flatU = true → RUs K μ n H ws vs → inV v vs = inF x ws
  | [], vs, g, q => by simp only [RUs] at q; subst q; rfl
  | w :: ws, vs, g, q => by
    simp only [RUs] at q
    obtain ⟨y, ys, rfl, r1, rs⟩ := q
    simp only [List.all_cons, Bool.and_eq_true] at g
    have ih := inF_ok f r g.2 rs
    unfold inV inF at *
    simp only [List.any_cons, ih, eqF_ok g.1 f r1 r]
def oIn (neg : Bool) : O2 := fun x y h => match (match y with
    | .tup ws => some ws
    | .ref i => rd h i
    | _ => none) with
  | some ws => if (flatU x && ws.all flatU) = true then some (.ok (.bl (inF x ws != neg)) h) else none
  | none => none
theorem oIn_ok {neg : Bool} : OpC G (oIn neg) (rIn G.K neg) := fun E μ h H wx wy x y Q rel rx ry p => by
  unfold oIn at p
  split at p
  · rename_i ws e
    split at p
    · rename_i hc
      simp only [Bool.and_eq_true] at hc
      have fin : ∀ a xs, y = .ref a → (SqL G.K H a xs ∨ SqT G.K H a xs) → RUs G.K μ h.length H ws xs → rIn G.K neg x y H Q := fun a xs ey sq rs => by
        refine ⟨a, xs, ey, sq, flatU_ok hc.1 rx, flats_ok hc.2 rs, Post.ok rel p _ ?_⟩
        rw [inF_ok hc.1 rx hc.2 rs]
        cases neg <;> simp [RU]
      cases wy with
      | tup us =>
        simp only [Option.some.injEq] at e
        subst e
        simp only [RU] at ry
        obtain ⟨a, xs, ey, st, rs⟩ := ry
        exact fin a xs ey (.inr st) rs
      | ref i =>
        simp only [RU] at ry
        obtain ⟨_, ey⟩ := ry
        obtain ⟨xs, sq, rs⟩ := rd_ok rel e
        exact fin _ xs ey (.inl sq) rs
      | _ => simp at e
    · exact False.elim p
  · exact False.elim p

/-! ### xs[i] -/
theorem RUs.atI {K : PySem.W.Frag} {n : Nat} {ws : List U} {xs : List V} {i : Int} {w : U} (r : RUs K μ n H ws xs) (e : atI ws i = some w) : ∃ v, atI xs i = some v ∧ RU K μ n H w v := by
  unfold L2.atI at e ⊢
  rw [RUs.length r]
  cases e1 : ixN ws.length i with
  | none => rw [e1] at e; cases e
  | some j =>
    rw [e1] at e
    exact RUs.get r e
def oIx : O2 := fun x y h => match x, y with
  | .ref l, .int i => match rd h l with
    | some ws => match atI ws i with
      | some w => some (.ok w h)
      | none => none
    | none => none
  | .tup ws, .int i => match atI ws i with
    | some w => some (.ok w h)
    | none => none
  | .str z, .int i => match atI z.cps.toList i with
    | some c => if z.length ≤ LIM then some (.ok (.str ⟨#[c]⟩) h) else none
    | none => none
  | _, _ => none
theorem oIx_ok : OpC G oIx (rIx G.K) := fun E μ h H wx wy x y Q rel rx ry p => by
  unfold oIx at p
  split at p
  · rename_i l i
    simp only [RU] at rx ry
    obtain ⟨_, rfl⟩ := rx
    subst ry
    split at p
    · rename_i ws e1
      split at p
      · rename_i w e2
        obtain ⟨xs, sq, rs⟩ := rd_ok rel e1
        obtain ⟨v, ev, rv⟩ := RUs.atI rs e2
        exact .inl ⟨_, xs, i, v, rfl, rfl, sq, ev, Post.ok rel p _ rv⟩
      · exact False.elim p
    · exact False.elim p
  · rename_i ws i
    simp only [RU] at rx ry
    obtain ⟨a, xs, rfl, st, rs⟩ := rx
    subst ry
    split at p
    · rename_i w e2
      obtain ⟨v, ev, rv⟩ := RUs.atI rs e2
      exact .inr (.inl ⟨_, xs, i, v, rfl, rfl, st, ev, Post.ok rel p _ rv⟩)
    · exact False.elim p
  · rename_i z i
    simp only [RU] at rx ry
    subst rx ry
    split at p
    · rename_i c e2
      split at p
      · rename_i hc
        exact .inr (.inr ⟨z, i, c, rfl, rfl, lim_le hc, e2, Post.ok rel p _ rfl⟩)
      · exact False.elim p
    · exact False.elim p
  · exact False.elim p

/-! ### slices -/
abbrev MO := Ev → Hm → Option (Rz (Option Int))
def tO (G : Gm) (Wx : WX) (m : MO) : TO := fun σ H Q => ∃ μ ρ h, StOk G μ ρ h σ H ∧ Post G (fun _ _ H' b => Q b H') (fun cls d H' => Wx cls d σ H') μ h H (m ρ h)
theorem _root_.L2.PO.weak {X : Cx} {e : Option Expr} {t t' : TO} (h : PO X e t) (w : ∀ σ H Q, t' σ H Q → t σ H Q) : PO X e t' := by
  obtain ⟨h⟩ := h
  exact ⟨fun pins s σ H Q I q => h pins s σ H Q I (w σ H Q q)⟩
def mNoPart : MO := fun _ h => some (.ok none h)
def mPart (e : ME) : MO := fun ρ h => bnd (e ρ h) fun w h1 => match w with
  | .int i => some (.ok (some i) h1)
  | _ => none
theorem w_noPart : ∀ σ H Q, tO G Wx mNoPart σ H Q → tNoPart σ H Q := fun σ H Q ⟨μ, ρ, h, s, p⟩ => Post.ok s.rel p
theorem w_part {e : ME} : ∀ σ H Q, tO G Wx (mPart e) σ H Q → tPart (tE G Wx e) σ H Q := fun σ H Q ⟨μ, ρ, h, s, p⟩ =>
  ⟨μ, ρ, h, s, (Post.bnd p).mono fun μ1 h1 H1 w g q v r => by
    cases w with
    | int i =>
      simp only [RU] at r
      exact ⟨i, r, Post.ok g.rel q⟩
    | _ => exact False.elim q⟩
def cut {α : Type} (xs : List α) (lo hi : Option Int) : List α := (xs.drop (HT.sIx xs.length 0 lo)).take (HT.sIx xs.length xs.length hi - HT.sIx xs.length 0 lo)
theorem RUs.cut {K : PySem.W.Frag} {n : Nat} {ws : List U} {xs : List V} (r : RUs K μ n H ws xs) (lo hi : Option Int) : RUs K μ n H (cut ws lo hi) (cutV xs lo hi) := by
  unfold ML.cut cutV
  rw [RUs.length r]
  exact RUs.take _ (RUs.drop _ r)
abbrev OS := U → Option Int → Option Int → Hm → Option (Rz U)
def SlC (G : Gm) (f : OS) (r : V → Option Int → Option Int → Hp → VK → Prop) : Prop := ∀ (E : XK) μ h H wx x lo hi Q, HRel G μ h H → RU G.K μ h.length H wx x → Post G (PV G Q) E μ h H (f wx lo hi h) → r x lo hi H Q
def mSl (f : OS) (e : ME) (lo hi : MO) : ME := fun ρ h => bnd (e ρ h) fun x h1 => bnd (lo ρ h1) fun l h2 => bnd (hi ρ h2) fun u h3 => f x l u h3
theorem w_sl {f : OS} {r : V → Option Int → Option Int → Hp → VK → Prop} {e : ME} {lo hi : MO} (c : SlC G f r) : ∀ σ H Q, tE G Wx (mSl f e lo hi) σ H Q → tSl r (tE G Wx e) (tO G Wx lo) (tO G Wx hi) σ H Q := fun σ H Q ⟨μ, ρ, h, s, p⟩ =>
  ⟨μ, ρ, h, s, (Post.bnd p).mono fun μ1 h1 H1 wx g1 q1 x rx => ⟨μ1, ρ, h1, s.on g1, (Post.bnd q1).mono fun μ2 h2 H2 l g2 q2 => ⟨μ2, ρ, h2, (s.on g1).on g2, (Post.bnd q2).mono fun μ3 h3 H3 u g3 q3 =>
    c _ μ3 h3 H3 wx x l u Q g3.rel ((g2.trans g3).ru rx) q3⟩⟩⟩
def oSlL : OS := fun x lo hi h => match x with
  | .ref l => match rd h l with
    | some ws => some (.ok (.ref h.length) (h ++ [.lst (cut ws lo hi)]))
    | none => none
  | _ => none
theorem oSlL_ok : SlC G oSlL (rSlL G.K) := fun E μ h H wx x lo hi Q rel rx p => by
  unfold oSlL at p
  split at p
  · rename_i l
    simp only [RU] at rx
    obtain ⟨_, rfl⟩ := rx
    split at p
    · rename_i ws e1
      obtain ⟨xs, sq, rs⟩ := rd_ok rel e1
      refine ⟨_, xs, rfl, sq, fun q hq => ?_⟩
      have rr := RUs.mono (μ' := nu μ h.length q) (n' := h.length + 1) (H' := upd H q (.lst (cutV xs lo hi))) (fun i hi => nu_old hi) (Nat.le_succ _) (TS0.fresh hq) _ _ (rs.cut lo hi)
      have g := Gr.new (o := .lst (cutV xs lo hi)) (c := .lst (cut ws lo hi)) rel hq ⟨_, upd_same, rr⟩
      exact p _ _ g _ (by simp only [RU]; exact ⟨by simp, by rw [nu_new]⟩)
    · exact False.elim p
  · exact False.elim p
def oSlT : OS := fun x lo hi h => match x with
  | .tup ws => some (.ok (.tup (cut ws lo hi)) h)
  | _ => none
theorem cut_all {α : Type} {xs : List α} {lo hi : Option Int} (e : HT.sIx xs.length 0 lo = 0 ∧ HT.sIx xs.length xs.length hi = xs.length) : cut xs lo hi = xs := by
  unfold cut
  rw [e.1, e.2]
  simp
theorem ru_tup {K : PySem.W.Frag} {n : Nat} {ws : List U} {a : Addr} {xs : List V} (s : SqT K H a xs) (r : RUs K μ n H ws xs) : RU K μ n H (.tup ws) (.ref a) := by
  simp only [RU]
  exact ⟨a, xs, rfl, s, r⟩
/-- a new tuple -/
theorem new_tup {E : XK} {Q : VK} {ws : List U} {xs : List V} (rel : HRel G μ h H) (rs : RUs G.K μ h.length H ws xs) (p : Post G (PV G Q) E μ h H (some (.ok (.tup ws) h))) : ∀ q, H q = none → Q (.ref q) (upd H q (.tup xs)) := fun q hq =>
  p μ _ (Gr.fresh rel hq) _ (ru_tup (SqT.of upd_same) (rs.same (TS0.fresh hq)))
theorem oSlT_ok : SlC G oSlT (rSlA G.K) := fun E μ h H wx x lo hi Q rel rx p => by
  unfold oSlT at p
  split at p
  · rename_i ws
    simp only [RU] at rx
    obtain ⟨a, xs, rfl, st, rs⟩ := rx
    refine ⟨a, xs, rfl, st, fun e => ?_, fun _ => new_tup rel (rs.cut lo hi) p⟩
    rw [RUs.length rs] at e
    rw [cut_all e] at p
    exact Post.ok rel p _ (ru_tup st rs)
  · exact False.elim p
def oAddT2 : O2 := fun x y h => match x, y with
  | .tup xs, .tup ys => if xs.length + ys.length ≤ LIM then some (.ok (.tup (xs ++ ys)) h) else none
  | _, _ => none
theorem oAddT2_ok : OpC G oAddT2 (rCatA G.K) := fun E μ h H wx wy x y Q rel rx ry p => by
  unfold oAddT2 at p
  split at p
  · rename_i xs ys
    simp only [RU] at rx ry
    obtain ⟨a, vs, rfl, sa, ra⟩ := rx
    obtain ⟨b, us, rfl, sb, rb⟩ := ry
    split at p
    · rename_i hc
      refine ⟨a, b, vs, us, rfl, rfl, sa, sb, by rw [RUs.length ra, RUs.length rb]; exact lim_le hc, fun e => ?_, fun _ e => ?_, fun _ _ => new_tup rel (ra.append rb) p⟩
      · have e2 : xs = [] := List.eq_nil_of_length_eq_zero (by rw [← RUs.length ra, e]; rfl)
        subst e2
        exact Post.ok rel p _ (ru_tup sb rb)
      · have e2 : ys = [] := List.eq_nil_of_length_eq_zero (by rw [← RUs.length rb, e]; rfl)
        subst e2
        rw [List.append_nil] at p
        exact Post.ok rel p _ (ru_tup sa ra)
    · exact False.elim p
  · exact False.elim p
end
end ML

set_option maxHeartbeats 4000000
namespace ML
open PySem L2
section
variable {G : Gm} {Wx : WX} {μ μ' : Nat → Addr} {h h' : Hm} {H H' : Hp} {ρ : Ev} {σ : St}

/-! ### tests -/
def toB (w : U) (h : Hm) : Option (Rz Bool) := match w with
  | .bl b => some (.ok b h)
  | _ => none
def mB (e : ME) : MT := fun ρ h => bnd (e ρ h) toB
theorem w_B {e : ME} : ∀ σ H Q, tT G Wx (mB e) σ H Q → tB (tE G Wx e) σ H Q := fun σ H Q ⟨μ, ρ, h, s, p⟩ =>
  ⟨μ, ρ, h, s, (Post.bnd p).mono fun μ1 h1 H1 w g q v r => by
    cases w with
    | bl b => simp only [RU] at r; exact ⟨b, r, Post.ok g.rel q⟩
    | _ => exact False.elim q⟩
theorem w_test {e : ME} : ∀ σ H Q, tT G Wx (mB e) σ H Q → tTest (tE G Wx e) σ H Q := fun σ H Q z => w_B σ H Q z
theorem w_testop {f : O2} {r : R2} {a b : ME} (c : OpC G f r) : ∀ σ H Q, tT G Wx (mB (mOp f a b)) σ H Q → tTest (tOp r (tE G Wx a) (tE G Wx b)) σ H Q := fun σ H Q z => w_op c σ H _ (w_B σ H Q z)
theorem w_testN {a : ME} : ∀ σ H Q, tT G Wx (mB (mIsN false a)) σ H Q → tB (tIsN (tE G Wx a)) σ H Q := fun σ H Q z => w_isN σ H _ (w_B σ H Q z)
theorem w_testNN {a : ME} : ∀ σ H Q, tT G Wx (mB (mIsN true a)) σ H Q → tB (tNotN (tE G Wx a)) σ H Q := fun σ H Q z => w_notN σ H _ (w_B σ H Q z)
def mTAnd (a b : MT) : MT := fun ρ h => bnd (a ρ h) fun c h1 => if c = true then b ρ h1 else some (.ok false h1)
def mTOr (a b : MT) : MT := fun ρ h => bnd (a ρ h) fun c h1 => if c = true then some (.ok true h1) else b ρ h1
def mTNot (a : MT) : MT := fun ρ h => bnd (a ρ h) fun c h1 => some (.ok (!c) h1)
theorem w_tand {a b : MT} : ∀ σ H Q, tT G Wx (mTAnd a b) σ H Q → tAnd (tT G Wx a) (tT G Wx b) σ H Q := fun σ H Q ⟨μ, ρ, h, s, p⟩ =>
  ⟨μ, ρ, h, s, (Post.bnd p).mono fun μ1 h1 H1 c g q => by
    cases c with
    | true => rw [if_pos rfl] at q ⊢; exact ⟨μ1, ρ, h1, s.on g, q⟩
    | false => rw [if_neg Bool.false_ne_true] at q ⊢; exact Post.ok g.rel q⟩
theorem w_tor {a b : MT} : ∀ σ H Q, tT G Wx (mTOr a b) σ H Q → tOr (tT G Wx a) (tT G Wx b) σ H Q := fun σ H Q ⟨μ, ρ, h, s, p⟩ =>
  ⟨μ, ρ, h, s, (Post.bnd p).mono fun μ1 h1 H1 c g q => by
    cases c with
    | true => rw [if_pos rfl] at q ⊢; exact Post.ok g.rel q
    | false => rw [if_neg Bool.false_ne_true] at q ⊢; exact ⟨μ1, ρ, h1, s.on g, q⟩⟩
theorem w_tnot {a : MT} : ∀ σ H Q, tT G Wx (mTNot a) σ H Q → tNot (tT G Wx a) σ H Q := fun σ H Q ⟨μ, ρ, h, s, p⟩ =>
  ⟨μ, ρ, h, s, (Post.bnd p).mono fun μ1 h1 H1 c g q => Post.ok g.rel q⟩
/-- and, or, not as values -/
def mAnd (a b : ME) : ME := fun ρ h => bnd (a ρ h) fun w h1 => match w with
  | .bl c => if c = true then b ρ h1 else some (.ok (.bl false) h1)
  | _ => none
def mOr (a b : ME) : ME := fun ρ h => bnd (a ρ h) fun w h1 => match w with
  | .bl c => if c = true then some (.ok (.bl true) h1) else b ρ h1
  | _ => none
def mNot (a : ME) : ME := fun ρ h => bnd (a ρ h) fun w h1 => match w with
  | .bl c => some (.ok (.bl (!c)) h1)
  | _ => none
def mIfE (c : MT) (a b : ME) : ME := fun ρ h => bnd (c ρ h) fun k h1 => if k = true then a ρ h1 else b ρ h1
theorem w_and {a b : ME} : ∀ σ H Q, tE G Wx (mAnd a b) σ H Q → tAndV (tE G Wx a) (tE G Wx b) σ H Q := fun σ H Q ⟨μ, ρ, h, s, p⟩ =>
  ⟨μ, ρ, h, s, (Post.bnd p).mono fun μ1 h1 H1 w g q v r => by
    cases w with
    | bl c =>
      simp only [RU] at r
      refine ⟨c, r, ?_⟩
      cases c with
      | true => simp only [if_true] at q ⊢; exact ⟨μ1, ρ, h1, s.on g, q⟩
      | false => simp only [Bool.false_eq_true, if_false] at q ⊢; exact Post.ok g.rel q _ rfl
    | _ => exact False.elim q⟩
theorem w_or {a b : ME} : ∀ σ H Q, tE G Wx (mOr a b) σ H Q → tOrV (tE G Wx a) (tE G Wx b) σ H Q := fun σ H Q ⟨μ, ρ, h, s, p⟩ =>
  ⟨μ, ρ, h, s, (Post.bnd p).mono fun μ1 h1 H1 w g q v r => by
    cases w with
    | bl c =>
      simp only [RU] at r
      refine ⟨c, r, ?_⟩
      cases c with
      | true => simp only [if_true] at q ⊢; exact Post.ok g.rel q _ rfl
      | false => simp only [Bool.false_eq_true, if_false] at q ⊢; exact ⟨μ1, ρ, h1, s.on g, q⟩
    | _ => exact False.elim q⟩
theorem w_not {a : ME} : ∀ σ H Q, tE G Wx (mNot a) σ H Q → tNotV (tE G Wx a) σ H Q := fun σ H Q ⟨μ, ρ, h, s, p⟩ =>
  ⟨μ, ρ, h, s, (Post.bnd p).mono fun μ1 h1 H1 w g q v r => by
    cases w with
    | bl c => simp only [RU] at r; exact ⟨c, r, Post.ok g.rel q _ rfl⟩
    | _ => exact False.elim q⟩
theorem w_ifE {c : MT} {a b : ME} : ∀ σ H Q, tE G Wx (mIfE c a b) σ H Q → tIf (tT G Wx c) (tE G Wx a) (tE G Wx b) σ H Q := fun σ H Q ⟨μ, ρ, h, s, p⟩ =>
  ⟨μ, ρ, h, s, (Post.bnd p).mono fun μ1 h1 H1 k g q => by
    cases k with
    | true => rw [if_pos rfl] at q ⊢; exact ⟨μ1, ρ, h1, s.on g, q⟩
    | false => rw [if_neg Bool.false_ne_true] at q ⊢; exact ⟨μ1, ρ, h1, s.on g, q⟩⟩
/-- a < b < c -/
def mChain (f f' : O2) (a b c : ME) : ME := fun ρ h => bnd (a ρ h) fun x h1 => bnd (b ρ h1) fun y h2 => bnd (f x y h2) fun z h3 => match z with
  | .bl k => if k = true then bnd (c ρ h3) fun w h4 => f' y w h4 else some (.ok (.bl false) h3)
  | _ => none
theorem w_chain {f f' : O2} {r r' : R2} {a b c : ME} (c1 : OpC G f r) (c2 : OpC G f' r') : ∀ σ H Q, tE G Wx (mChain f f' a b c) σ H Q → tChain r r' (tE G Wx a) (tE G Wx b) (tE G Wx c) σ H Q := fun σ H Q ⟨μ, ρ, h, s, p⟩ =>
  ⟨μ, ρ, h, s, (Post.bnd p).mono fun μ1 h1 H1 wx g1 q1 x rx => ⟨μ1, ρ, h1, s.on g1, (Post.bnd q1).mono fun μ2 h2 H2 wy g2 q2 y ry =>
    c1 _ μ2 h2 H2 wx wy x y _ g2.rel (g2.ru rx) ry ((Post.bnd q2).mono fun μ3 h3 H3 wz g3 q3 z rz => by
      cases wz with
      | bl k =>
        simp only [RU] at rz
        refine ⟨k, rz, ?_⟩
        cases k with
        | true =>
          simp only [if_true] at q3 ⊢
          exact ⟨μ3, ρ, h3, ((s.on g1).on g2).on g3, (Post.bnd q3).mono fun μ4 h4 H4 ww g4 q4 w rw => c2 _ μ4 h4 H4 wy ww y w Q g4.rel ((g3.trans g4).ru ry) rw q4⟩
        | false => simp only [Bool.false_eq_true, if_false] at q3 ⊢; exact Post.ok g3.rel q3 _ rfl
      | _ => exact False.elim q3)⟩⟩
theorem w_testchain {f f' : O2} {r r' : R2} {a b c : ME} (c1 : OpC G f r) (c2 : OpC G f' r') : ∀ σ H Q, tT G Wx (mB (mChain f f' a b c)) σ H Q → tTest (tChain r r' (tE G Wx a) (tE G Wx b) (tE G Wx c)) σ H Q :=
  fun σ H Q z => w_chain c1 c2 σ H _ (w_B σ H Q z)
/-- -a -/
def mNeg (a : ME) : ME := fun ρ h => bnd (a ρ h) fun w h1 => match w with
  | .int i => some (.ok (.int (-i)) h1)
  | _ => none
theorem w_neg {a : ME} : ∀ σ H Q, tE G Wx (mNeg a) σ H Q → tUn (rU fun i => .int (-i)) (tE G Wx a) σ H Q := fun σ H Q ⟨μ, ρ, h, s, p⟩ =>
  ⟨μ, ρ, h, s, (Post.bnd p).mono fun μ1 h1 H1 w g q v r => by
    cases w with
    | int i => simp only [RU] at r; exact ⟨i, r, Post.ok g.rel q _ rfl⟩
    | _ => exact False.elim q⟩

/-! ### arguments, displays -/
def mNil : MA := fun _ h => some (.ok [] h)
def mCons (e : ME) (es : MA) : MA := fun ρ h => bnd (e ρ h) fun w h1 => bnd (es ρ h1) fun ws h2 => some (.ok (w :: ws) h2)
theorem w_nil : ∀ σ H Q, tA G Wx mNil σ H Q → tNil σ H Q := fun σ H Q ⟨μ, ρ, h, s, p⟩ => Post.ok s.rel p _ RUs.nil
theorem w_cons {e : ME} {es : MA} : ∀ σ H Q, tA G Wx (mCons e es) σ H Q → tCons (tE G Wx e) (tA G Wx es) σ H Q := fun σ H Q ⟨μ, ρ, h, s, p⟩ =>
  ⟨μ, ρ, h, s, (Post.bnd p).mono fun μ1 h1 H1 wx g1 q1 x rx => ⟨μ1, ρ, h1, s.on g1, (Post.bnd q1).mono fun μ2 h2 H2 ws g2 q2 vs rs => Post.ok g2.rel q2 _ (RUs.cons (g2.ru rx) rs)⟩⟩
def mTup (es : MA) : ME := fun ρ h => bnd (es ρ h) fun ws h1 => if ws.length ≤ LIM then some (.ok (.tup ws) h1) else none
def mLst (es : MA) : ME := fun ρ h => bnd (es ρ h) fun ws h1 => if ws.length ≤ LIM then some (.ok (.ref h1.length) (h1 ++ [.lst ws])) else none
theorem w_tup {es : MA} : ∀ σ H Q, tE G Wx (mTup es) σ H Q → tTup (tA G Wx es) σ H Q := fun σ H Q ⟨μ, ρ, h, s, p⟩ =>
  ⟨μ, ρ, h, s, (Post.bnd p).mono fun μ1 h1 H1 ws g q vs rs => by
    split at q
    · rename_i hc
      exact ⟨by rw [RUs.length rs]; exact lim_le hc, new_tup g.rel rs q⟩
    · exact False.elim q⟩
/-- a new list -/
theorem new_lst {E : XK} {Q : VK} {ws : List U} {xs : List V} (rel : HRel G μ h H) (rs : RUs G.K μ h.length H ws xs) (p : Post G (PV G Q) E μ h H (some (.ok (.ref h.length) (h ++ [.lst ws])))) : ∀ q, H q = none → Q (.ref q) (upd H q (.lst xs)) := fun q hq => by
  have rr := RUs.mono (μ' := nu μ h.length q) (n' := h.length + 1) (H' := upd H q (.lst xs)) (fun i hi => nu_old hi) (Nat.le_succ _) (TS0.fresh hq) _ _ rs
  have g := Gr.new (o := .lst xs) (c := .lst ws) rel hq ⟨_, upd_same, rr⟩
  exact p _ _ g _ (by simp only [RU]; exact ⟨by simp, by rw [nu_new]⟩)
theorem w_lst {es : MA} : ∀ σ H Q, tE G Wx (mLst es) σ H Q → tLst (tA G Wx es) σ H Q := fun σ H Q ⟨μ, ρ, h, s, p⟩ =>
  ⟨μ, ρ, h, s, (Post.bnd p).mono fun μ1 h1 H1 ws g q vs rs => by
    split at q
    · rename_i hc
      exact ⟨by rw [RUs.length rs]; exact lim_le hc, new_lst g.rel rs q⟩
    · exact False.elim q⟩

/-! ### calls of built-ins -/
def CallC (G : Gm) (f : MF) (r : List V → Hp → VK → Prop) : Prop := ∀ (E : XK) μ h H ws vs Q, HRel G μ h H → RUs G.K μ h.length H ws vs → Post G (PV G Q) E μ h H (f ws h) → r vs H Q
def mCB (f : MF) (es : MA) : ME := fun ρ h => bnd (es ρ h) fun ws h1 => f ws h1
theorem w_cb {f : MF} {r : List V → Hp → VK → Prop} {es : MA} (c : CallC G f r) : ∀ σ H Q, tE G Wx (mCB f es) σ H Q → tCB r (tA G Wx es) σ H Q := fun σ H Q ⟨μ, ρ, h, s, p⟩ =>
  ⟨μ, ρ, h, s, (Post.bnd p).mono fun μ1 h1 H1 ws g q vs rs => c _ μ1 h1 H1 ws vs Q g.rel rs q⟩
theorem rus1 {K : PySem.W.Frag} {n : Nat} {w : U} {vs : List V} (r : RUs K μ n H [w] vs) : ∃ v, vs = [v] ∧ RU K μ n H w v := by
  simp only [RUs] at r
  obtain ⟨y, ys, rfl, r1, rfl⟩ := r
  exact ⟨y, rfl, r1⟩
theorem rus2 {K : PySem.W.Frag} {n : Nat} {w u : U} {vs : List V} (r : RUs K μ n H [w, u] vs) : ∃ v x, vs = [v, x] ∧ RU K μ n H w v ∧ RU K μ n H u x := by
  simp only [RUs] at r
  obtain ⟨y, ys, rfl, r1, z, zs, rfl, r2, rfl⟩ := r
  exact ⟨y, z, rfl, r1, r2⟩
/-- len of a list or a tuple, of a text -/
def fLen : MF := fun ws h => match ws with
  | [.ref i] => match rd h i with
    | some us => some (.ok (.int us.length) h)
    | none => none
  | [.tup us] => some (.ok (.int us.length) h)
  | [.str z] => if z.length ≤ LIM then some (.ok (.int z.length) h) else none
  | _ => none
theorem fLen_ok : CallC G fLen (fun xs H Q => ∃ x n, xs = [x] ∧ LenV G.K x H n ∧ Q (.int n) H) := fun E μ h H ws vs Q rel rs p => by
  unfold fLen at p
  split at p
  · rename_i i
    obtain ⟨v, rfl, r⟩ := rus1 rs
    simp only [RU] at r
    obtain ⟨_, rfl⟩ := r
    split at p
    · rename_i us e
      obtain ⟨xs, sq, rr⟩ := rd_ok rel e
      exact ⟨_, us.length, rfl, .inl ⟨xs, sq, (RUs.length rr).symm⟩, Post.ok rel p _ rfl⟩
    · exact False.elim p
  · rename_i us
    obtain ⟨v, rfl, r⟩ := rus1 rs
    simp only [RU] at r
    obtain ⟨a, xs, rfl, st, rr⟩ := r
    exact ⟨_, us.length, rfl, .inr ⟨xs, st, (RUs.length rr).symm⟩, Post.ok rel p _ rfl⟩
  · rename_i z
    obtain ⟨v, rfl, r⟩ := rus1 rs
    simp only [RU] at r
    subst r
    split at p
    · rename_i hc
      exact ⟨_, z.length, rfl, ⟨lim_le hc, rfl⟩, Post.ok rel p _ rfl⟩
    · exact False.elim p
  · exact False.elim p
def fAbs : MF := fun ws h => match ws with
  | [.int i] => some (.ok (.int (if i < 0 then -i else i)) h)
  | _ => none
theorem fAbs_ok : CallC G fAbs (fun xs H Q => ∃ i, xs = [.int i] ∧ Q (.int (if i < 0 then -i else i)) H) := fun E μ h H ws vs Q rel rs p => by
  unfold fAbs at p
  split at p
  · rename_i i
    obtain ⟨v, rfl, r⟩ := rus1 rs
    simp only [RU] at r
    subst r
    exact ⟨i, rfl, Post.ok rel p _ rfl⟩
  · exact False.elim p
def fMax2 : MF := fun ws h => match ws with
  | [.int i, .int j] => some (.ok (.int (if j > i then j else i)) h)
  | _ => none
theorem fMax2_ok : CallC G fMax2 (fun xs H Q => ∃ i j, xs = [.int i, .int j] ∧ Q (.int (if j > i then j else i)) H) := fun E μ h H ws vs Q rel rs p => by
  unfold fMax2 at p
  split at p
  · rename_i i j
    obtain ⟨v, u, rfl, r1, r2⟩ := rus2 rs
    simp only [RU] at r1 r2
    subst r1 r2
    exact ⟨i, j, rfl, Post.ok rel p _ rfl⟩
  · exact False.elim p
def fMin2 : MF := fun ws h => match ws with
  | [.int i, .int j] => some (.ok (.int (if j < i then j else i)) h)
  | _ => none
theorem fMin2_ok : CallC G fMin2 (fun xs H Q => ∃ i j, xs = [.int i, .int j] ∧ Q (.int (if j < i then j else i)) H) := fun E μ h H ws vs Q rel rs p => by
  unfold fMin2 at p
  split at p
  · rename_i i j
    obtain ⟨v, u, rfl, r1, r2⟩ := rus2 rs
    simp only [RU] at r1 r2
    subst r1 r2
    exact ⟨i, j, rfl, Post.ok rel p _ rfl⟩
  · exact False.elim p
/-- int of an int, of a bool, of a text -/
def fInt : MF := fun ws h => match ws with
  | [.int i] => some (.ok (.int i) h)
  | [.bl k] => some (.ok (.int (if k then 1 else 0)) h)
  | _ => none
theorem fInt_ok : CallC G fInt (fun xs H Q => (∃ i, xs = [.int i] ∧ Q (.int i) H) ∨ ∃ k, xs = [.bl k] ∧ Q (.int (if k then 1 else 0)) H) := fun E μ h H ws vs Q rel rs p => by
  unfold fInt at p
  split at p
  · rename_i i
    obtain ⟨v, rfl, r⟩ := rus1 rs
    simp only [RU] at r
    subst r
    exact .inl ⟨i, rfl, Post.ok rel p _ rfl⟩
  · rename_i k
    obtain ⟨v, rfl, r⟩ := rus1 rs
    simp only [RU] at r
    subst r
    exact .inr ⟨k, rfl, Post.ok rel p _ rfl⟩
  · exact False.elim p
def fIntS : MF := fun ws h => match ws with
  | [.str a] => match PySem.intText? a with
    | some n => if a.length ≤ 640 then some (.ok (.int n) h) else none
    | none => none
  | _ => none
theorem fIntS_ok : CallC G fIntS (fun xs H Q => ∃ a n, xs = [.str a] ∧ PySem.intText? a = some n ∧ a.length ≤ 640 ∧ Q (.int n) H) := fun E μ h H ws vs Q rel rs p => by
  unfold fIntS at p
  split at p
  · rename_i a
    obtain ⟨v, rfl, r⟩ := rus1 rs
    simp only [RU] at r
    subst r
    split at p
    · rename_i n e
      split at p
      · rename_i hc
        exact ⟨a, n, rfl, e, hc, Post.ok rel p _ rfl⟩
      · exact False.elim p
    · exact False.elim p
  · exact False.elim p
/-- str of an int -/
def fStrI : MF := fun ws h => match ws with
  | [.int i] => if i.natAbs.log2 < 1920 then some (.ok (.str (toString i)) h) else none
  | _ => none
theorem fStrI_ok : CallC G fStrI (fun xs H Q => ∃ i, xs = [.int i] ∧ i.natAbs.log2 < 1920 ∧ Q (.str (toString i)) H) := fun E μ h H ws vs Q rel rs p => by
  unfold fStrI at p
  split at p
  · rename_i i
    obtain ⟨v, rfl, r⟩ := rus1 rs
    simp only [RU] at r
    subst r
    split at p
    · rename_i hc
      exact ⟨i, rfl, hc, Post.ok rel p _ rfl⟩
    · exact False.elim p
  · exact False.elim p
/-- all(xs), any(xs) of truth values -/
def blsOf : List U → Option (List Bool)
  | [] => some []
  | .bl b :: ws => match blsOf ws with
    | some bs => some (b :: bs)
    | none => none
  | _ :: _ => none
theorem blsOf_ok {K : PySem.W.Frag} {n : Nat} : ∀ {ws : List U} {vs : List V} {bs : List Bool}, blsOf ws = some bs → RUs K μ n H ws vs → vs = bs.map V.bl
  | [], vs, bs, e, r => by simp only [RUs] at r; subst r; cases e; rfl
  | w :: ws, vs, bs, e, r => by
    cases w <;> first | (cases e; done) | skip
    rename_i b
    simp only [blsOf] at e
    simp only [RUs] at r
    obtain ⟨y, ys, rfl, r1, rs⟩ := r
    cases e1 : blsOf ws with
    | none => rw [e1] at e; cases e
    | some bs2 =>
      rw [e1] at e
      cases e
      simp only [RU] at r1
      rw [r1, blsOf_ok e1 rs]
      rfl
def fAll (any : Bool) : MF := fun ws h => match ws with
  | [.ref i] => match rd h i with
    | some us => match blsOf us with
      | some bs => some (.ok (.bl (if any then bs.any id else bs.all id)) h)
      | none => none
    | none => none
  | _ => none
theorem fAll_ok : CallC G (fAll false) (fun vs H Q => ∃ (a : Addr) (bs : List Bool), vs = [V.ref a] ∧ SqL G.K H a (bs.map V.bl) ∧ Q (.bl (bs.all id)) H) := fun E μ h H ws vs Q rel rs p => by
  unfold fAll at p
  split at p
  · rename_i i
    obtain ⟨v, rfl, r⟩ := rus1 rs
    simp only [RU] at r
    obtain ⟨_, rfl⟩ := r
    split at p
    · rename_i us e
      split at p
      · rename_i bs eb
        obtain ⟨xs, sq, rr⟩ := rd_ok rel e
        have := blsOf_ok eb rr
        subst this
        exact ⟨_, bs, rfl, sq, Post.ok rel p _ (by simp [RU])⟩
      · exact False.elim p
    · exact False.elim p
  · exact False.elim p
theorem fAny_ok : CallC G (fAll true) (fun vs H Q => ∃ (a : Addr) (bs : List Bool), vs = [V.ref a] ∧ SqL G.K H a (bs.map V.bl) ∧ Q (.bl (bs.any id)) H) := fun E μ h H ws vs Q rel rs p => by
  unfold fAll at p
  split at p
  · rename_i i
    obtain ⟨v, rfl, r⟩ := rus1 rs
    simp only [RU] at r
    obtain ⟨_, rfl⟩ := r
    split at p
    · rename_i us e
      split at p
      · rename_i bs eb
        obtain ⟨xs, sq, rr⟩ := rd_ok rel e
        have := blsOf_ok eb rr
        subst this
        exact ⟨_, bs, rfl, sq, Post.ok rel p _ (by simp [RU])⟩
      · exact False.elim p
    · exact False.elim p
  · exact False.elim p
/-- list(x), tuple(x) -/
def fList : MF := fun ws h => match (match ws with
    | [.ref i] => rd h i
    | [.tup us] => some us
    | _ => none) with
  | some us => some (.ok (.ref h.length) (h ++ [.lst us]))
  | none => none
theorem fList_ok : CallC G fList (fun xs H Q => ∃ p ys, xs = [.ref p] ∧ (SqL G.K H p ys ∨ SqT G.K H p ys) ∧ ∀ l, H l = none → Q (.ref l) (upd H l (.lst ys))) := fun E μ h H ws vs Q rel rs p => by
  unfold fList at p
  split at p
  · rename_i us e
    split at e
    · rename_i i
      obtain ⟨v, rfl, r⟩ := rus1 rs
      simp only [RU] at r
      obtain ⟨_, rfl⟩ := r
      obtain ⟨xs, sq, rr⟩ := rd_ok rel e
      exact ⟨_, xs, rfl, .inl sq, new_lst rel rr p⟩
    · rename_i us'
      cases e
      obtain ⟨v, rfl, r⟩ := rus1 rs
      simp only [RU] at r
      obtain ⟨a, xs, rfl, st, rr⟩ := r
      exact ⟨_, xs, rfl, .inr st, new_lst rel rr p⟩
    · cases e
  · exact False.elim p
def fTuple : MF := fun ws h => match (match ws with
    | [.ref i] => rd h i
    | [.tup us] => some us
    | _ => none) with
  | some us => some (.ok (.tup us) h)
  | none => none
theorem fTuple_ok : CallC G fTuple (fun xs H Q => ∃ p ys, xs = [.ref p] ∧ ((SqL G.K H p ys ∧ ∀ l, H l = none → Q (.ref l) (upd H l (.tup ys))) ∨ (SqT G.K H p ys ∧ Q (.ref p) H))) := fun E μ h H ws vs Q rel rs p => by
  unfold fTuple at p
  split at p
  · rename_i us e
    split at e
    · rename_i i
      obtain ⟨v, rfl, r⟩ := rus1 rs
      simp only [RU] at r
      obtain ⟨_, rfl⟩ := r
      obtain ⟨xs, sq, rr⟩ := rd_ok rel e
      exact ⟨_, xs, rfl, .inl ⟨sq, new_tup rel rr p⟩⟩
    · rename_i us'
      cases e
      obtain ⟨v, rfl, r⟩ := rus1 rs
      simp only [RU] at r
      obtain ⟨a, xs, rfl, st, rr⟩ := r
      exact ⟨_, xs, rfl, .inr ⟨st, Post.ok rel p _ (ru_tup st rr)⟩⟩
    · cases e
  · exact False.elim p

/-! ### methods of built-in types -/
def MtC (G : Gm) (T : String) (f : U → MF) (r : V → List V → Hp → VK → Prop) : Prop := ∀ (E : XK) μ h H wx x ws vs Q, HRel G μ h H → RU G.K μ h.length H wx x → RUs G.K μ h.length H ws vs → Post G (PV G Q) E μ h H (f wx ws h) → r x vs H Q
/-- what kind a value must be for its method to be looked up -/
def TyC (G : Gm) (T : String) (k : U → Hm → Bool) : Prop := ∀ μ h H w v, HRel G μ h H → RU G.K μ h.length H w v → k w h = true → tyV G.K T v H
def mBM (k : U → Hm → Bool) (f : U → MF) (o : ME) (es : MA) : ME := fun ρ h => bnd (o ρ h) fun x h1 => if k x h1 = true then bnd (es ρ h1) fun ws h2 => f x ws h2 else none
theorem w_bm {T : String} {k : U → Hm → Bool} {f : U → MF} {r : V → List V → Hp → VK → Prop} {o : ME} {es : MA} (ty : TyC G T k) (c : MtC G T f r) : ∀ σ H Q, tE G Wx (mBM k f o es) σ H Q → tBM G.K T r (tE G Wx o) (tA G Wx es) σ H Q := fun σ H Q ⟨μ, ρ, h, s, p⟩ =>
  ⟨μ, ρ, h, s, (Post.bnd p).mono fun μ1 h1 H1 wx g1 q1 x rx => by
    split at q1
    · rename_i hk
      exact ⟨ty μ1 h1 H1 wx x g1.rel rx hk, μ1, ρ, h1, s.on g1, (Post.bnd q1).mono fun μ2 h2 H2 ws g2 q2 vs rs => c _ μ2 h2 H2 wx x ws vs Q g2.rel (g2.ru rx) rs q2⟩
    · exact False.elim q1⟩
theorem w_bm0 {T : String} {k : U → Hm → Bool} {f : U → MF} {r : V → List V → Hp → VK → Prop} {o : ME} (ty : TyC G T k) (c : MtC G T f r) : ∀ σ H Q, tE G Wx (mBM k f o mNil) σ H Q → tBM0 G.K T r (tE G Wx o) σ H Q := fun σ H Q ⟨μ, ρ, h, s, p⟩ =>
  ⟨μ, ρ, h, s, (Post.bnd p).mono fun μ1 h1 H1 wx g1 q1 x rx => by
    split at q1
    · rename_i hk
      exact ⟨ty μ1 h1 H1 wx x g1.rel rx hk, c _ μ1 h1 H1 wx x [] [] Q g1.rel rx RUs.nil q1⟩
    · exact False.elim q1⟩
def kList : U → Hm → Bool := fun w h => match w with
  | .ref i => match h[i]? with
    | some (.lst _) => true
    | _ => false
  | _ => false
theorem kList_ok : TyC G "list" kList := fun μ h H w v rel r e => by
  unfold kList at e
  split at e
  · rename_i i
    split at e
    · rename_i ws ec
      simp only [RU] at r
      obtain ⟨_, rfl⟩ := r
      obtain ⟨xs, s, _⟩ := rel.cell i _ ec
      exact .inl ⟨rfl, xs, SqL.of s⟩
    · cases e
  · cases e
def kStr : U → Hm → Bool := fun w _ => match w with
  | .str _ => true
  | _ => false
theorem kStr_ok : TyC G "str" kStr := fun μ h H w v rel r e => by
  unfold kStr at e
  split at e
  · simp only [RU] at r
    subst r
    exact rfl
  · cases e
def fAppend : U → MF := fun x ws h => match x, ws with
  | .ref l, [w] => match h[l]? with
    | some (.lst us) => if us.length < LIM then some (.ok .non (h.set l (.lst (us ++ [w])))) else none
    | _ => none
  | _, _ => none
theorem fAppend_ok : MtC G "list" fAppend rAppend := fun E μ h H wx x ws vs Q rel rx rs p => by
  unfold fAppend at p
  split at p
  · rename_i l w
    simp only [RU] at rx
    obtain ⟨hl, rfl⟩ := rx
    obtain ⟨v, rfl, rv⟩ := rus1 rs
    split at p
    · rename_i us ec
      split at p
      · rename_i hc
        obtain ⟨xs, s, rr⟩ := rel.cell l _ ec
        refine ⟨_, xs, v, rfl, rfl, s, by rw [RUs.length rr]; exact Nat.lt_of_lt_of_le hc (lim_le (Nat.le_refl _)), ?_⟩
        have ts : TS0 G.K H (upd H (μ l) (.lst (xs ++ [v]))) := TS0.write s rfl
        have g := Gr.write (o := .lst (xs ++ [v])) (d := .lst (us ++ [w])) rel ec rfl rfl ⟨_, upd_same, (rr.append (RUs.cons rv RUs.nil)).same ts⟩
        exact p _ _ g _ rfl
      · exact False.elim p
    · exact False.elim p
  · exact False.elim p
def fPop : U → MF := fun x ws h => match x, ws with
  | .ref l, [] => match h[l]? with
    | some (.lst us) => match us[us.length - 1]? with
      | some w => some (.ok w (h.set l (.lst us.dropLast)))
      | none => none
    | _ => none
  | _, _ => none

/-! ### xs[i] = e -/
def mSetIx (e o i : ME) : MS := fun ρ h => bndS ρ (e ρ h) fun w h1 => bndS ρ (o ρ h1) fun x h2 => bndS ρ (i ρ h2) fun y h3 => match x, y with
  | .ref l, .int k => match h3[l]? with
    | some (.lst us) => match ixN us.length k with
      | some j => some (.nx ρ (h3.set l (.lst (us.set j w))))
      | none => none
    | _ => none
  | _, _ => none
theorem w_setIx {e o i : ME} : ∀ D σ H, tS G Wx (mSetIx e o i) D σ H → tAsg (tE G Wx e) (gSub (tE G Wx o) (tE G Wx i) rSetL) D σ H := fun D σ H ⟨μ, ρ, h, s, p⟩ =>
  ⟨μ, ρ, h, s, (PostS.bnd s p).mono fun μ1 h1 H1 w g1 q1 v rv => ⟨μ1, ρ, h1, s.on g1, (PostS.bnd (s.on g1) q1).mono fun μ2 h2 H2 wx g2 q2 x rx => ⟨μ2, ρ, h2, (s.on g1).on g2, (PostS.bnd ((s.on g1).on g2) q2).mono fun μ3 h3 H3 wy g3 q3 y ry => by
    have rx := g3.ru rx
    have rv := (g2.trans g3).ru rv
    cases wx with
    | ref l =>
      cases wy with
      | int k =>
        simp only [RU] at rx ry
        obtain ⟨hl, rfl⟩ := rx
        subst ry
        simp only at q3
        split at q3
        · rename_i us ec
          split at q3
          · rename_i j ej
            obtain ⟨xs, sx, rr⟩ := g3.rel.cell l _ ec
            refine ⟨_, xs, k, j, rfl, rfl, sx, by rw [RUs.length rr]; exact ej, ?_⟩
            have ts : TS0 G.K H3 (upd H3 (μ3 l) (.lst (xs.set j v))) := TS0.write sx rfl
            have g := Gr.write (o := .lst (xs.set j v)) (d := .lst (us.set j w)) g3.rel ec rfl rfl ⟨_, upd_same, (RUs.set rv j rr).same ts⟩
            exact q3 μ3 σ _ g ((((s.on g1).on g2).on g3).on g)
          · exact False.elim q3
        · exact False.elim q3
      | _ => exact False.elim q3
    | _ => exact False.elim q3⟩⟩⟩
end
end ML

set_option maxHeartbeats 4000000
namespace ML
open PySem L2
section
variable {G : Gm} {Wx : WX} {μ μ' : Nat → Addr} {h h' : Hm} {H H' : Hp} {ρ : Ev} {σ : St}

/-! ### a def's promise -/
def spM (G : Gm) (n : Nat) (f : MF) : Sp := fun vs H Q E => ∃ μ h ws, HRel G μ h H ∧ RUs G.K μ h.length H ws vs ∧ vs.length = n ∧ Post G (PV G Q) E μ h H (f ws h)
/-- a def by its body: n parameters, N slots -/
def mfun (n N : Nat) (body : MS) : MF := fun ws h => if ws.length = n then match body (ws.map some ++ List.replicate (N - n) none) h with
    | some (.nx _ h1) => some (.ok .non h1)
    | some (.rt w h1) => some (.ok w h1)
    | some (.ex c fs _ h1) => some (.ex c fs h1)
    | _ => none
  else none
theorem st_start {ws : List U} {vs : List V} {n : Nat} {Ns : List Str} (rel : HRel G μ h H) (rs : RUs G.K μ h.length H ws vs) (hn : vs.length = n) : StOk G μ (ws.map some ++ List.replicate (Ns.length - n) none) h (L2.start Ns vs) H := by
  have hl := RUs.length rs
  refine ⟨rel, by simp [L2.start, ← hn, hl], fun i w e => ?_⟩
  by_cases hi : i < ws.length
  · rw [List.getElem?_append_left (by simpa using hi), List.getElem?_map] at e
    cases e1 : ws[i]? with
    | none => rw [e1] at e; cases e
    | some u =>
      rw [e1] at e
      cases e
      obtain ⟨v, ev, rv⟩ := RUs.get rs e1
      refine ⟨v, ?_, rv⟩
      unfold L2.start
      rw [List.getElem?_append_left (by simp [hl]; exact hi), List.getElem?_map, ev]
      rfl
  · rw [List.getElem?_append_right (by simp; omega)] at e
    rw [List.getElem?_replicate] at e
    split at e <;> cases e
section
variable {P : Program} {w : World} {K : PySem.W.Frag} {mg : Str → Option Value} {base : Heap}
abbrev FnM (P : Program) (w : World) (G : Gm) (mg : Str → Option Value) (base : Heap) (k : Nat) (f : Addr) (fd : FuncData) (ps : List Str) (m : MF) : Prop := FnOk P w G.K mg base (L2.CX P w) k f fd ps (spM G ps.length m)
/-- the wish of a def's body about exceptions -/
abbrev wDef (E : XK) : WX := fun cls d _ H => E cls d H
theorem fn_M {x qual : Str} {st : Stmt} {f : Addr} {fd : FuncData} {N ps : List Str} {k : Nat} {m : MS} (F : Fun G.K x qual st f fd) (S : FnScope N ps (defScope st))
    (hbody : ∀ (cdv : Value) (A : Around) (outer : List Env) (s : Shared) (H : Hp) (E : XK), Room k (A.deeper (PyProof.Rows.envOfC qual (defScope st) s.heap.objs.size f cdv)) →
      Takes (cxOf (L2.CX P w) P w G.K mg base N qual (defScope st) f cdv A outer s H E) (wDef E) →
      PSs (cxOf (L2.CX P w) P w G.K mg base N qual (defScope st) f cdv A outer s H E) (defBody st) (tS G (wDef E) m)) :
    FnM P w G mg base (k + 1) f fd ps (mfun ps.length N.length m) := by
  refine F.okX S (fun vs H Q E z => ?_) (fun cdv A outer s H vs Q E hr hsp => ⟨_, hbody cdv A outer s H E hr (takes_of rfl rfl rfl rfl), ?_⟩)
  · obtain ⟨_, _, _, _, _, hl, _⟩ := z
    exact hl
  · obtain ⟨μ, h, ws, rel, rs, hl, p⟩ := hsp
    refine ⟨μ, _, h, st_start rel rs hl, ?_⟩
    unfold mfun at p
    have hw : ws.length = ps.length := by rw [← RUs.length rs]; exact hl
    rw [if_pos hw] at p
    cases e : m (ws.map some ++ List.replicate (N.length - ps.length) none) h with
    | none => rw [e] at p; exact p
    | some r =>
      rw [e] at p
      cases r with
      | nx ρ' h1 => exact fun μ' σ' H' g s' => p μ' H' g _ rfl
      | rt w h1 => exact fun μ' H' v g r => p μ' H' g v r
      | bk ρ' h1 => exact False.elim p
      | ct ρ' h1 => exact False.elim p
      | ex c fs ρ' h1 => exact fun μ' σ' H' cls d g s' rx => p μ' H' cls d g rx
/-- a plainer function in its place -/
theorem FnM.to {k : Nat} {f : Addr} {fd : FuncData} {ps : List Str} {m m' : MF} (F : FnM P w G mg base k f fd ps m) (hm : ∀ ws h r, m' ws h = some r → m ws h = some r) : FnM P w G mg base k f fd ps m' :=
  FnOk.imp F fun vs H Q E ⟨μ, h, ws, rel, rs, hl, p⟩ => ⟨μ, h, ws, rel, rs, hl, by
    cases e : m' ws h with
    | none => rw [e] at p; exact False.elim p
    | some r => rw [hm ws h r e, ← e]; exact p⟩
end

/-! ### the call of a def -/
theorem Post.on {α : Type} {P : (Nat → Addr) → Hm → Hp → α → Prop} {E : XK} {r : Option (Rz α)} (p : Post G P E μ h H r) (g : Gr G μ h H μ' h' H') : Post G P E μ' h' H' r := by
  cases r with
  | none => exact p
  | some r =>
    cases r with
    | ok a h1 => exact fun μ1 H1 g1 => p μ1 H1 (g.trans g1)
    | ex c fs h1 => exact fun μ1 H1 cls d g1 rx => p μ1 H1 cls d (g.trans g1) rx
/-- as many arguments -/
def AL (m : MA) (n : Nat) : Prop := ∀ ρ h ws h', m ρ h = some (.ok ws h') → ws.length = n
theorem al_nil : AL mNil 0 := fun ρ h ws h' e => by
  unfold mNil at e
  cases e
  rfl
theorem al_cons {e : ME} {es : MA} {n : Nat} (a : AL es n) : AL (mCons e es) (n + 1) := fun ρ h ws h' q => by
  unfold mCons at q
  cases e1 : e ρ h with
  | none => rw [e1] at q; cases q
  | some r =>
    rw [e1] at q
    cases r with
    | ex c fs h1 => cases q
    | ok w h1 =>
      simp only [bnd_ok] at q
      cases e2 : es ρ h1 with
      | none => rw [e2] at q; cases q
      | some r2 =>
        rw [e2] at q
        cases r2 with
        | ex c fs h2 => cases q
        | ok ws2 h2 =>
          simp only [bnd_ok] at q
          cases q
          simp [a ρ h1 ws2 _ e2]
theorem Post.withEq {α : Type} {P : (Nat → Addr) → Hm → Hp → α → Prop} {E : XK} {r : Option (Rz α)} (p : Post G P E μ h H r) : Post G (fun μ' h' H' a => P μ' h' H' a ∧ r = some (.ok a h')) E μ h H r := by
  cases r with
  | none => exact p
  | some r =>
    cases r with
    | ok a h' => exact fun μ' H' g => ⟨p μ' H' g, rfl⟩
    | ex c fs h' => exact p
theorem w_call {n : Nat} {f : MF} {es : MA} (a : AL es n) : ∀ σ H Q, tE G Wx (mCB f es) σ H Q → tCallS (spM G n f) (WE Wx) (tA G Wx es) σ H Q := fun σ H Q ⟨μ, ρ, h, s, p⟩ =>
  ⟨μ, ρ, h, s, (Post.bnd p).withEq.mono fun μ1 h1 H1 ws g ⟨q, eq⟩ vs rs => ⟨μ1, h1, ws, g.rel, rs, (RUs.length rs).trans (a ρ h ws h1 eq), q⟩⟩

def fput (f : Str) (w : U) : List (Str × U) → List (Str × U)
  | [] => [(f, w)]
  | (g, u) :: fs => if g = f then (f, w) :: fs else (g, u) :: fput f w fs
theorem RFs.put {K : PySem.W.Frag} {n : Nat} {f : Str} {w : U} {v : V} (r : RU K μ n H w v) : ∀ {fs : List (Str × U)} {gs : List (Str × V)}, RFs K μ n H fs gs → RFs K μ n H (fput f w fs) (putF f v gs)
  | [], gs, q => by
    simp only [RFs] at q
    subst q
    show RFs K μ n H [(f, w)] [(f, v)]
    simp only [RFs]
    exact ⟨v, [], rfl, r, rfl⟩
  | (g, u) :: fs, gs, q => by
    simp only [RFs] at q
    obtain ⟨y, ys, rfl, r1, rs⟩ := q
    unfold fput putF
    by_cases hg : g = f
    · rw [if_pos hg, if_pos hg]
      subst hg
      simp only [RFs]
      exact ⟨v, ys, rfl, r, rs⟩
    · rw [if_neg hg, if_neg hg]
      simp only [RFs]
      exact ⟨y, _, rfl, r1, RFs.put r rs⟩
theorem RFs.length {K : PySem.W.Frag} {n : Nat} : ∀ {fs : List (Str × U)} {gs : List (Str × V)}, RFs K μ n H fs gs → gs.length = fs.length
  | [], gs, q => by simp only [RFs] at q; subst q; rfl
  | (g, u) :: fs, gs, q => by
    simp only [RFs] at q
    obtain ⟨y, ys, rfl, r1, rs⟩ := q
    simp [RFs.length rs]
/-! ### attributes of instances -/
def fget (f : Str) : List (Str × U) → Option U
  | [] => none
  | (g, w) :: fs => if f = g then some w else fget f fs
theorem fget_ok {K : PySem.W.Frag} {n : Nat} {f : Str} : ∀ {fs : List (Str × U)} {gs : List (Str × V)} {w : U}, fget f fs = some w → RFs K μ n H fs gs → ∃ v, gs.lookup f = some v ∧ RU K μ n H w v
  | [], gs, w, e, r => by cases e
  | (g, u) :: fs, gs, w, e, r => by
    simp only [RFs] at r
    obtain ⟨y, ys, rfl, r1, rs⟩ := r
    unfold fget at e
    rw [List.lookup_cons]
    by_cases hg : f = g
    · rw [if_pos hg] at e
      cases e
      subst hg
      simp only [beq_self_eq_true]
      exact ⟨y, rfl, r1⟩
    · rw [if_neg hg] at e
      have : (f == g) = false := by simpa using hg
      rw [this]
      exact fget_ok e rs
theorem fget_none {K : PySem.W.Frag} {n : Nat} {f : Str} : ∀ {fs : List (Str × U)} {gs : List (Str × V)}, fget f fs = none → RFs K μ n H fs gs → gs.lookup f = none
  | [], gs, e, r => by simp only [RFs] at r; subst r; rfl
  | (g, u) :: fs, gs, e, r => by
    simp only [RFs] at r
    obtain ⟨y, ys, rfl, r1, rs⟩ := r
    unfold fget at e
    rw [List.lookup_cons]
    by_cases hg : f = g
    · rw [if_pos hg] at e
      cases e
    · rw [if_neg hg] at e
      have : (f == g) = false := by simpa using hg
      rw [this]
      exact fget_none e rs


/-! ### methods and makers, what is raised wished for at the caller's slots -/
section
variable {X : Cx} {CX : CXT} {k : Nat} {f C : Addr} {fd : FuncData} {ps : List Str} {sp : Sp} {E : St → XK} {x m : Str} {p pos apos : Pos} {e o : Expr} {es : List Expr} {ta : TE} {t : TA}
def tMethS (C : Addr) (m : Str) (sp : Sp) (E : St → XK) (ta : TE) (t : TA) : TE := fun σ H Q => ta σ H fun x H1 => ∃ a dx fs, x = .ref a ∧ H1 a = some (.ins C dx fs) ∧ fs.lookup m = none ∧
  t σ H1 fun vs H2 => sp (x :: vs) H2 Q (E σ)
theorem pe_methS {pl : Sem Bool} (he : PE X o ta) (c : Cls X.K C) (hm : Meth X.K C m f) (F : FnOk X.prog X.w X.K X.mg X.base CX k f fd ps sp) (hr : Room k X.A) (hb : Binds X.K fd ps []) (hx : ∀ σ, PassesAt CX X σ (E σ)) (ha : PA X (e :: es) t)
    (hst : starEach (e :: es) X.env = (false, eval e X.env) :: starEach es X.env := by rfl) (hpl : (backTo pos (starEach es X.env)).any (·.1) = false := by rfl)
    (ht : eval (.Call (.Attribute o m apos) (e :: es) [] pos) X.env = (do
      let ov ← eval o X.env
      standAt apos.atName
      let (f, first) ← holding [ov] (getMethod ov m pl)
      callWith pos f first (backTo pos (starEach (e :: es) X.env)) (backToKw pos (keywordEach [] X.env))) := by rfl) :
    PE X (.Call (.Attribute o m apos) (e :: es) [] pos) (tMethS C m sp E ta t) := by
  refine ⟨fun pins s σ H Q I h => ?_⟩
  refine PySem.W.methodCall_KW (pl := pl) (thn (he.run pins s σ H _ I h) fun u s1 ⟨x, H1, I1, rx, a, dx, fs, ex, ea, l, q⟩ => ?_) ht
  subst ex
  obtain rfl : u = Value.ref a := rx
  refine getmeth_ok I1 ea c hm l ?_
  refine PySem.W.callWith_K (first := [.ref a]) (h₀ := X.base) I.ok.mod.kin hm.kp (thn (ha.run pos pins s1 σ H1 _ I1 q) fun us s2 ⟨vs, H2, I2, r, q2⟩ => ⟨I2.kIn, ?_⟩) hst hpl
  exact run_fnS (us := .ref a :: us) (vs := .ref a :: vs) F hr hb (hx σ) I2 (.cons rfl r) q2
theorem pe_methS0 {pl : Sem Bool} (he : PE X o ta) (c : Cls X.K C) (hm : Meth X.K C m f) (F : FnOk X.prog X.w X.K X.mg X.base CX k f fd ps sp) (hr : Room k X.A) (hb : Binds X.K fd ps []) (hx : ∀ σ, PassesAt CX X σ (E σ))
    (ht : eval (.Call (.Attribute o m apos) [] [] pos) X.env = (do
      let ov ← eval o X.env
      standAt apos.atName
      let (f, first) ← holding [ov] (getMethod ov m pl)
      callWith pos f first (backTo pos (starEach [] X.env)) (backToKw pos (keywordEach [] X.env))) := by rfl) :
    PE X (.Call (.Attribute o m apos) [] [] pos) (tMethS C m sp E ta tNil) := by
  refine ⟨fun pins s σ H Q I h => ?_⟩
  refine PySem.W.methodCall_KW (pl := pl) (thn (he.run pins s σ H _ I h) fun u s1 ⟨x, H1, I1, rx, a, dx, fs, ex, ea, l, q⟩ => ?_) ht
  subst ex
  obtain rfl : u = Value.ref a := rx
  refine getmeth_ok I1 ea c hm l ?_
  exact PySem.W.callWith_K0 (first := [.ref a]) I1.kIn hm.kp (run_fnS (us := [.ref a]) (vs := [.ref a]) F hr hb (hx σ) I1 (.cons rfl .nil) q)
def tMakeS (C : Addr) (sp : Sp) (E : St → XK) (t : TA) : TE := fun σ H Q => t σ H fun vs H1 => ∀ x dx, H1 x = none → H1 dx = none → dx ≠ x →
  sp (.ref x :: vs) (upd (upd H1 dx (.own x)) x (.ins C dx [])) (fun v H2 => v = .non ∧ Q (.ref x) H2) (E σ)
theorem run_makeS {pins : List (Addr × Obj)} {σ : St} {H : Hp} {s : Shared} {Q : VK} {us : List Value} {vs : List V} (M : Mk X.K C f) (F : FnOk X.prog X.w X.K X.mg X.base CX k f fd ps sp) (hr : Room (k + 1) X.A) (hb : Binds X.K fd ps [])
    (hx : PassesAt CX X σ (E σ)) (I : Inv X pins σ H s) (r : Vals vs us)
    (h : ∀ x dx, H x = none → H dx = none → dx ≠ x → sp (.ref x :: vs) (upd (upd H dx (.own x)) x (.ins C dx [])) (fun v H2 => v = .non ∧ Q (.ref x) H2) (E σ)) :
    wpAny (model X.prog X.w) X.A (call (.ref C) us) (EP X pins σ Q) X.xe s := by
  have hq := h (s.heap.objs.size + 1) s.heap.objs.size (I.hok.fresh (Nat.le_succ _)) (I.hok.fresh (Nat.le_refl _)) (Nat.ne_of_lt (Nat.lt_succ_self _))
  have I2 := Inv.made (C := C) I
  have r2 : Vals (V.ref (s.heap.objs.size + 1) :: vs) (Value.ref (s.heap.objs.size + 1) :: us) := .cons rfl r
  have hl : (Value.ref (s.heap.objs.size + 1) :: us).length = ps.length := by
    have e := r2.length
    rw [F.len _ _ _ _ hq] at e
    exact e.symm
  have b := hb _ (Value.ref (s.heap.objs.size + 1) :: us) I2.kIn (by rw [List.append_nil]; exact hl)
  rw [List.append_nil] at b
  refine wpAny_call (make_map (f := f) I.kIn M.makes M.init (beq_iff_eq.mp M.fn) (codeAny_mono (F.run _ X.stack _ _ ⟨Value.ref (s.heap.objs.size + 1) :: us, []⟩ (Value.ref (s.heap.objs.size + 1) :: us) _ _ (E σ) (hr.make C us [])
    (I2.env0.make C us []) b r2 hq) fun r s' hq' => ?_))
  cases r with
  | error e => exact hx pins _ _ e s' I2 hq'
  | ok fl =>
    cases fl with
    | ret u =>
      obtain ⟨v, H', I3, rv, ev, q3⟩ := I2.after hq'
      subst ev
      exact ⟨rv, ⟨V.ref (s.heap.objs.size + 1), H', I3, rfl, q3⟩⟩
    | next => exact False.elim hq'
    | brk => exact False.elim hq'
    | cont => exact False.elim hq'
theorem pe_makeS (M : Mk X.K C f) (F : FnOk X.prog X.w X.K X.mg X.base CX k f fd ps sp) (hr : Room (k + 1) X.A) (hg : Gl X x) (hm : X.mg x = some (.ref C)) (hb : Binds X.K fd ps []) (hx : ∀ σ, PassesAt CX X σ (E σ))
    (ha : PA X (e :: es) t) (hdb : (x == ("__debug__" : Str)) = false := by decide) (he : starEach (e :: es) X.env = (false, eval e X.env) :: starEach es X.env := by rfl) (hpl : (backTo pos (starEach es X.env)).any (·.1) = false := by rfl) :
    PE X (.Call (.Name x p) (e :: es) [] pos) (tMakeS C sp E t) := by
  refine ⟨fun pins s σ H Q I h => ?_⟩
  refine wpAny_Call_Name_kw (ld_glob I hg hm ?_ hdb)
  refine PySem.W.callWith_K (h₀ := X.base) I.ok.mod.kin M.kp (thn (ha.run pos pins s σ H _ I h) fun us s1 ⟨vs, H1, I1, r, q⟩ => ⟨I1.kIn, ?_⟩) he hpl
  exact run_makeS M F hr hb (hx σ) I1 r q
theorem pe_callS0 (F : FnOk X.prog X.w X.K X.mg X.base CX k f fd ps sp) (hr : Room k X.A) (hg : Gl X x) (hm : X.mg x = some (.ref f)) (hk : PySem.W.keepIn X.K (.ref f) = true) (hb : Binds X.K fd ps []) (hx : ∀ σ, PassesAt CX X σ (E σ))
    (hdb : (x == ("__debug__" : Str)) = false := by decide) : PE X (.Call (.Name x p) [] [] pos) (tCallS sp E tNil) := by
  refine ⟨fun pins s σ H Q I h => ?_⟩
  refine wpAny_Call_Name_kw (ld_glob I hg hm ?_ hdb)
  exact PySem.W.callWith_K0 I.kIn hk (run_fnS (us := []) F hr hb (hx σ) I .nil h)
end
/-! ### e.f of an instance; self.f = e; the call of a method; C(..) -/
/-- the classes whose instances' f is read from their own dict -/
def AtC (G : Gm) (f : Str) (ok : Nat → Bool) : Prop := ∀ c, ok c = true → Cls G.K (G.ca c) ∧ NoAttr G.K (G.ca c) f
def mAttr (f : Str) (ok : Nat → Bool) (o : ME) : ME := fun ρ h => bnd (o ρ h) fun x h1 => match x with
  | .ref i => match h1[i]? with
    | some (.ins c fs) => if ok c = true then match fget f fs with
        | some w => some (.ok w h1)
        | none => none
      else none
    | _ => none
  | _ => none
theorem w_attr {f : Str} {ok : Nat → Bool} {o : ME} (a : AtC G f ok) : ∀ σ H Q, tE G Wx (mAttr f ok o) σ H Q → tFld G.K (tE G Wx o) f σ H Q := fun σ H Q ⟨μ, ρ, h, s, p⟩ =>
  ⟨μ, ρ, h, s, (Post.bnd p).mono fun μ1 h1 H1 wx g q x rx => by
    cases wx with
    | ref i =>
      simp only [RU] at rx
      obtain ⟨hi, rfl⟩ := rx
      simp only at q
      split at q
      · rename_i c fs ec
        split at q
        · rename_i hc
          split at q
          · rename_i w ew
            obtain ⟨dx, gs, ea, rf⟩ := g.rel.cell i _ ec
            obtain ⟨v, ev, rv⟩ := fget_ok ew rf
            obtain ⟨c1, c2⟩ := a c hc
            exact ⟨_, _, dx, gs, v, rfl, ea, c1, c2, ev, Post.ok g.rel q _ rv⟩
          · exact False.elim q
        · exact False.elim q
      · exact False.elim q
    | _ => exact False.elim q⟩
def mSetAt (f : Str) (ok : Nat → Bool) (o e : ME) : MS := fun ρ h => bndS ρ (e ρ h) fun w h1 => bndS ρ (o ρ h1) fun x h2 => match x with
  | .ref i => match h2[i]? with
    | some (.ins c fs) => if (ok c && decide (fs.length < 900)) = true then some (.nx ρ (h2.set i (.ins c (fput f w fs)))) else none
    | _ => none
  | _ => none
theorem w_setAt {f : Str} {ok : Nat → Bool} {o e : ME} (a : AtC G f ok) : ∀ D σ H, tS G Wx (mSetAt f ok o e) D σ H → sFld G.K (tE G Wx o) (tE G Wx e) f D σ H := fun D σ H ⟨μ, ρ, h, s, p⟩ =>
  ⟨μ, ρ, h, s, (PostS.bnd s p).mono fun μ1 h1 H1 w g1 q1 v rv => ⟨μ1, ρ, h1, s.on g1, (PostS.bnd (s.on g1) q1).mono fun μ2 h2 H2 wx g2 q2 x rx => by
    have rv := g2.ru rv
    cases wx with
    | ref i =>
      simp only [RU] at rx
      obtain ⟨hi, rfl⟩ := rx
      simp only at q2
      split at q2
      · rename_i c fs ec
        split at q2
        · rename_i hc
          simp only [Bool.and_eq_true, decide_eq_true_eq] at hc
          obtain ⟨dx, gs, ea, rf⟩ := g2.rel.cell i _ ec
          obtain ⟨c1, c2⟩ := a c hc.1
          refine ⟨_, _, dx, gs, rfl, ea, c1, c2, by rw [RFs.length rf]; omega, ?_⟩
          have ts : TS0 G.K H2 (upd H2 (μ2 i) (.ins (G.ca c) dx (putF f v gs))) := TS0.write ea rfl
          have g := Gr.write (o := .ins (G.ca c) dx (putF f v gs)) (d := .ins c (fput f w fs)) g2.rel ec rfl rfl ⟨dx, _, upd_same, RFs.mono (fun _ _ => rfl) (Nat.le_refl _) ts _ _ (RFs.put rv rf)⟩
          exact q2 μ2 σ _ g (((s.on g1).on g2).on g)
        · exact False.elim q2
      · exact False.elim q2
    | _ => exact False.elim q2⟩⟩
/-- o.m(..): o an instance of the class number c; f the method's function -/
def mMeth (c : Nat) (m : Str) (f : MF) (o : ME) (es : MA) : ME := fun ρ h => bnd (o ρ h) fun x h1 => match x with
  | .ref i => match h1[i]? with
    | some (.ins c' fs) => if c' = c ∧ fget m fs = none then bnd (es ρ h1) fun ws h2 => f (.ref i :: ws) h2 else none
    | _ => none
  | _ => none
theorem w_meth {c n : Nat} {m : Str} {f : MF} {o : ME} {es : MA} (a : AL es n) : ∀ σ H Q, tE G Wx (mMeth c m f o es) σ H Q → tMethS (G.ca c) m (spM G (n + 1) f) (WE Wx) (tE G Wx o) (tA G Wx es) σ H Q := fun σ H Q ⟨μ, ρ, h, s, p⟩ =>
  ⟨μ, ρ, h, s, (Post.bnd p).mono fun μ1 h1 H1 wx g q x rx => by
    cases wx with
    | ref i =>
      have rx0 := rx
      simp only [RU] at rx
      obtain ⟨hi, rfl⟩ := rx
      simp only at q
      split at q
      · rename_i c' fs ec
        split at q
        · rename_i hc
          obtain ⟨rfl, hm⟩ := hc
          obtain ⟨dx, gs, ea, rf⟩ := g.rel.cell i _ ec
          refine ⟨_, dx, gs, rfl, ea, fget_none hm rf, μ1, ρ, h1, s.on g, (Post.bnd q).withEq.mono fun μ2 h2 H2 ws g2 ⟨q2, eq⟩ vs rs => ?_⟩
          exact ⟨μ2, h2, .ref i :: ws, g2.rel, RUs.cons (g2.ru rx0) rs, by simp [RUs.length rs, a _ _ _ _ eq], q2⟩
        · exact False.elim q
      · exact False.elim q
    | _ => exact False.elim q⟩
theorem w_meth0 {c : Nat} {m : Str} {f : MF} {o : ME} : ∀ σ H Q, tE G Wx (mMeth c m f o mNil) σ H Q → tMethS (G.ca c) m (spM G 1 f) (WE Wx) (tE G Wx o) tNil σ H Q := fun σ H Q z => by
  obtain ⟨μ, ρ, h, s, p⟩ := w_meth al_nil σ H Q z
  exact ⟨μ, ρ, h, s, p.mono fun μ' h' H' w g q v r => by
    obtain ⟨a, dx, fs, ea, e2, e3, k⟩ := q v r
    exact ⟨a, dx, fs, ea, e2, e3, w_nil _ _ _ k⟩⟩
theorem w_call0 {f : MF} : ∀ σ H Q, tE G Wx (mCB f mNil) σ H Q → tCallS (spM G 0 f) (WE Wx) tNil σ H Q := fun σ H Q z => w_nil _ _ _ (w_call al_nil σ H Q z)
/-- C(..): the class number c, f its __init__ -/
def mkEnd (n : Nat) (w : U) (h2 : Hm) : Option (Rz U) := match w with
  | .non => some (.ok (.ref n) h2)
  | _ => none
def mMake (c : Nat) (f : MF) (es : MA) : ME := fun ρ h => bnd (es ρ h) fun ws h1 => bnd (f (.ref h1.length :: ws) (h1 ++ [.ins c []])) (mkEnd h1.length)
theorem w_make {c n : Nat} {f : MF} {es : MA} (a : AL es n) : ∀ σ H Q, tE G Wx (mMake c f es) σ H Q → tMakeS (G.ca c) (spM G (n + 1) f) (WE Wx) (tA G Wx es) σ H Q := fun σ H Q ⟨μ, ρ, h, s, p⟩ =>
  ⟨μ, ρ, h, s, (Post.bnd p).withEq.mono fun μ1 h1 H1 ws g ⟨q, eq⟩ vs rs x dx nx nd ne => by
    have g1 : Gr G μ1 h1 H1 μ1 h1 (upd H1 dx (.own x)) := Gr.fresh g.rel nd
    have nx' : upd H1 dx (.own x) x = none := by rw [upd_ne ne.symm]; exact nx
    have g2 := Gr.new (o := .ins (G.ca c) dx []) (c := .ins c []) g1.rel nx' ⟨dx, [], upd_same, by simp only [RFs]⟩
    have gg := g1.trans g2
    refine ⟨_, h1 ++ [.ins c []], .ref h1.length :: ws, gg.rel, RUs.cons (by simp only [RU]; exact ⟨by simp, by rw [nu_new]⟩) (gg.rus rs), by simp [RUs.length rs, a _ _ _ _ eq], ?_⟩
    have q : Post G (PV G Q) (fun cls d H' => Wx cls d σ H') (nu μ1 h1.length x) (h1 ++ [.ins c []]) (upd (upd H1 dx (.own x)) x (.ins (G.ca c) dx [])) (bnd (f (.ref h1.length :: ws) (h1 ++ [.ins c []])) (mkEnd h1.length)) := by
      have q' : Post G (PV G Q) (fun cls d H' => Wx cls d σ H') μ1 h1 H1 (bnd (f (.ref h1.length :: ws) (h1 ++ [.ins c []])) (mkEnd h1.length)) := q
      exact q'.on gg
    have q2 := Post.bnd q
    cases er : f (.ref h1.length :: ws) (h1 ++ [.ins c []]) with
    | none => rw [er] at q2; exact q2
    | some r =>
      rw [er] at q2
      cases r with
      | ok w h3 =>
        intro μ' H' g' v rv
        have q3 := q2 μ' H' g'
        cases w with
        | non =>
          simp only [RU] at rv
          subst rv
          refine ⟨rfl, Post.ok g'.rel q3 _ ?_⟩
          simp only [RU]
          have hl : h1.length < (h1 ++ [Cell.ins c []]).length := by simp
          exact ⟨Nat.lt_of_lt_of_le hl g'.len, by rw [g'.mu _ hl, nu_new]⟩
        | _ => exact False.elim q3
      | ex c fs h3 => exact q2⟩

/-! ### range -/
def rItems (lo : Int) (n : Nat) : List U := (List.range n).map fun (k : Nat) => .int (lo + (k : Int))
def iR1 (e : ME) : MI := fun ρ h => bnd (e ρ h) fun w h1 => match w with
  | .int j => if (decide (-1000000000 ≤ j) && decide (j ≤ 1000000000)) = true then some (.ok (rItems 0 j.toNat, fun _ => True) h1) else none
  | _ => none
theorem gives_range {lo : Int} {n : Nat} : Gives G (Itr lo n) (rItems lo n) (fun _ => True) μ h H := fun j μ2 h2 H2 gr ck => by
  refine ⟨fun hj => by
    show n ≤ j
    simpa [rItems] using hj, fun w hw => ?_⟩
  unfold rItems at hw
  rw [List.getElem?_map] at hw
  by_cases hj : j < n
  · rw [List.getElem?_range hj] at hw
    cases hw
    refine ⟨hj, fun x H' y => ?_⟩
    obtain ⟨rfl, rfl⟩ := y
    exact ⟨Gr.refl gr.rel, rfl⟩
  · rw [List.getElem?_eq_none (by simpa using hj)] at hw
    cases hw
theorem w_iR1 {e : ME} : ∀ σ H R, tI G Wx (iR1 e) σ H R → iRng1 (tCons (tE G Wx e) tNil) σ H R := fun σ H R ⟨μ, ρ, h, s, p⟩ =>
  ⟨μ, ρ, h, s, (Post.bnd p).mono fun μ1 h1 H1 w g q v r => by
    cases w with
    | int j =>
      simp only [RU] at r
      subst r
      simp only at q
      split at q
      · rename_i hc
        simp only [Bool.and_eq_true, decide_eq_true_eq] at hc
        exact ⟨j, rfl, by omega, by omega, q μ1 H1 (Gr.refl g.rel) _ gives_range⟩
      · exact False.elim q
    | _ => exact False.elim q⟩
def iR2 (a b : ME) : MI := fun ρ h => bnd (a ρ h) fun x h1 => bnd (b ρ h1) fun y h2 => match x, y with
  | .int i, .int j => if ((decide (-1000000000 ≤ i) && decide (i ≤ 1000000000)) && (decide (-1000000000 ≤ j) && decide (j ≤ 1000000000))) = true then some (.ok (rItems i (j - i).toNat, fun _ => True) h2) else none
  | _, _ => none
theorem w_iR2 {a b : ME} : ∀ σ H R, tI G Wx (iR2 a b) σ H R → iRng2 (tCons (tE G Wx a) (tCons (tE G Wx b) tNil)) σ H R := fun σ H R ⟨μ, ρ, h, s, p⟩ =>
  ⟨μ, ρ, h, s, (Post.bnd p).mono fun μ1 h1 H1 wx g1 q1 x rx => ⟨μ1, ρ, h1, s.on g1, (Post.bnd q1).mono fun μ2 h2 H2 wy g2 q2 y ry => by
    cases wx with
    | int i =>
      cases wy with
      | int j =>
        simp only [RU] at rx ry
        subst rx ry
        simp only at q2
        split at q2
        · rename_i hc
          simp only [Bool.and_eq_true, decide_eq_true_eq] at hc
          exact ⟨i, j, rfl, by omega, q2 μ2 H2 (Gr.refl g2.rel) _ gives_range⟩
        · exact False.elim q2
      | _ => exact False.elim q2
    | _ => exact False.elim q2⟩⟩
/-! ### the signs of a text -/
def sItems (x : Str) : List U := x.cps.toList.map fun c => .str ⟨#[c]⟩

/-! ### while -/
def whileN (c : MT) (b : MS) : Nat → MS
  | 0, _, _ => none
  | n + 1, ρ, h => bndS ρ (c ρ h) fun k h1 => if k = true then match b ρ h1 with
      | some (.nx ρ2 h2) => whileN c b n ρ2 h2
      | some (.ct ρ2 h2) => whileN c b n ρ2 h2
      | some (.bk ρ2 h2) => some (.nx ρ2 h2)
      | r => r
    else some (.nx ρ h1)
open Classical in
noncomputable def mWhile (c : MT) (b : MS) : MS := fun ρ h => if z : ∃ n, whileN c b n ρ h ≠ none then whileN c b (choose z) ρ h else none
theorem w_while {c : MT} {b : MS} : ∀ D σ H, tS G Wx (mWhile c b) D σ H → tWhile (tT G Wx c) (tS G Wx b) D σ H := fun D σ H ⟨μ, ρ, h, s, p⟩ => by
  unfold mWhile at p
  split at p
  · rename_i z
    generalize Classical.choose z = n at p
    refine ⟨fun m σ H => ∃ μ ρ h, StOk G μ ρ h σ H ∧ PostS G Wx D μ h H (whileN c b m ρ h), ⟨n, μ, ρ, h, s, p⟩, ?_⟩
    rintro m σ H ⟨μ, ρ, h, s, p⟩
    cases m with
    | zero => exact False.elim p
    | succ m =>
      unfold whileN at p
      refine ⟨μ, ρ, h, s, (PostS.bnd s p).mono fun μ1 h1 H1 k g q => ?_⟩
      cases k with
      | false =>
        rw [if_neg Bool.false_ne_true] at q ⊢
        exact q μ1 σ H1 (Gr.refl g.rel) (s.on g)
      | true =>
        rw [if_pos rfl] at q ⊢
        refine ⟨fun σ' H' => ∃ μ ρ h, StOk G μ ρ h σ' H' ∧ PostS G Wx D μ h H' (whileN c b m ρ h), fun σ' H' z => ⟨m, Nat.lt_succ_self m, z⟩, μ1, ρ, h1, s.on g, ?_⟩
        cases e2 : b ρ h1 with
        | none => rw [e2] at q; exact q
        | some r =>
          rw [e2] at q
          cases r with
          | nx ρ2 h2 => exact fun μ3 σ3 H3 g3 s3 => ⟨μ3, ρ2, h2, s3, PostS.on q g3⟩
          | ct ρ2 h2 => exact fun μ3 σ3 H3 g3 s3 => ⟨μ3, ρ2, h2, s3, PostS.on q g3⟩
          | bk ρ2 h2 => exact q
          | rt w h2 => exact q
          | ex c fs ρ2 h2 => exact q
  · exact False.elim p
theorem whileN_mono {c : MT} {b : MS} : ∀ {n : Nat} {ρ : Ev} {h : Hm} {r : Sz}, whileN c b n ρ h = some r → whileN c b (n + 1) ρ h = some r
  | 0, _, _, _, e => by cases e
  | n + 1, ρ, h, r, e => by
    unfold whileN at e ⊢
    cases ec : c ρ h with
    | none => rw [ec] at e; cases e
    | some rc =>
      rw [ec] at e
      cases rc with
      | ex c1 fs h1 => exact e
      | ok k h1 =>
        simp only [bndS_ok] at e ⊢
        cases k with
        | false => exact e
        | true =>
          simp only [if_true] at e ⊢
          cases eb : b ρ h1 with
          | none => rw [eb] at e; cases e
          | some rb =>
            rw [eb] at e
            cases rb with
            | nx ρ2 h2 => exact whileN_mono e
            | ct ρ2 h2 => exact whileN_mono e
            | bk ρ2 h2 => exact e
            | rt w h2 => exact e
            | ex c fs ρ2 h2 => exact e
theorem whileN_le {c : MT} {b : MS} {n m : Nat} {ρ : Ev} {h : Hm} {r : Sz} (hl : n ≤ m) (e : whileN c b n ρ h = some r) : whileN c b m ρ h = some r := by
  induction hl with
  | refl => exact e
  | step _ ih => exact whileN_mono ih
theorem mWhile_eq {c : MT} {b : MS} {n : Nat} {ρ : Ev} {h : Hm} {r : Sz} (e : whileN c b n ρ h = some r) : mWhile c b ρ h = some r := by
  have z : ∃ n, whileN c b n ρ h ≠ none := ⟨n, by rw [e]; simp⟩
  unfold mWhile
  rw [dif_pos z]
  have q := Classical.choose_spec z
  cases e2 : whileN c b (Classical.choose z) ρ h with
  | none => exact absurd e2 q
  | some r2 =>
    rcases Nat.le_total n (Classical.choose z) with l | l
    · rw [whileN_le l e] at e2
      exact e2.symm
    · rw [whileN_le l e2] at e
      exact e
end
end ML

set_option maxHeartbeats 4000000
namespace ML
open PySem PySem.Spec PyProof.Rows L2

/-! ### super().__init__(e) in the __init__ of an own error over ValueError -/
section
variable {prog : Program} {w : World} {A : Around} {E : Value → Shared → Prop} {h : Heap} {g : Array GenState} {d : Drawn} {t : Nat} {os : OsState}
variable {nm q : Str} {C N : Addr} {bs bm : List Value} {hdct : Bool} {sn : List Str} {sub : List Value} {ab : Bool} {col : Option Bool} {dd : Option Addr} {k0 k1 k2 k3 k5 : Option Value}
theorem call_bwV {u e t0 : Addr} {rest : List Value} {Q : Value → Shared → Prop}
    (hC : h.get? C = some (excClassObj nm q C N bs bm hdct sn sub ab col dd k0 k1 k2 k3 k5 "ValueError.__new__")) (he : h.get? e = some (HandSPX.excO C t0)) (hu : h.get? u = some (PySem.W.kxs_mw "ValueError.__init__" e)) (hrest : rest.length ≤ sizeLine)
    (hq : ∀ h' t1, (∀ b o, b ≠ e → h.get? b = some o → h'.get? b = some o) → h'.get? e = some (HandSPX.excO C t1) → Q .none ⟨h', g, d, t, os⟩) :
    wpAny (model prog w) A (call (.ref u) rest) Q E ⟨h, g, d, t, os⟩ := by
  refine wpAny_call (codeAny_of_tree ?_)
  show wpAny _ A.in1 (callAny (.ref u) ⟨rest, []⟩) _ _ _
  simp only [callAny]
  refine wpAny_bind (wpAny_load hu ?_)
  simp only [PySem.W.kxs_mw, show (Value.type "method-wrapper" == Value.type "method" || Value.type "method-wrapper" == Value.type "builtin_function_or_method" || Value.type "method-wrapper" == Value.type "method-wrapper") = true by decide, if_true]
  refine W.KFB.if_so (by decide) ?_
  refine wpAny_bind (PySem.W.check_bound_init F.excBase_ValueError.toExcCallFacts hC he rfl ?_)
  refine wpAny_bind (wpAny_pure (wpAny_pure ?_))
  refine ⟨Code.quiet_builtin _ (by decide +kernel), codeAny_builtin F.excBase_ValueError.initEntry ?_⟩
  rw [Around.under_plainId F.excBase_ValueError.init.plain _]
  wp_walk
  refine hq _ h.objs.size (fun b o hb ho => ?_) ?_
  · rw [Heap.get?_update_other _ _ (Ne.symm hb)]
    exact Heap.get?_push_of_some _ ho
  · rw [Heap.get?_update_self _ (Heap.get?_push_of_some _ he) rfl]
    rfl
end

abbrev envS (qual : Str) (scope : Scope) (L a : Addr) (cd : Value) (cc : Addr) : Env := PySem.W.envX qual scope L a cd [("__class__", cc)]
/-- the context of such a body -/
def cxS (CX : CXT) (P : Program) (w : World) (K : PySem.W.Frag) (mg : Str → Option Value) (base : Heap) (N : List Str) (qual : Str) (scope : Scope) (f : Addr) (cd : Value) (cc : Addr) (A : Around) (outer : List Env) (s : Shared) (H : Hp) (E : XK) : Cx where
  prog := P
  w := w
  K := K
  mg := mg
  base := base
  A := A.deeper (envS qual scope s.heap.objs.size f cd cc)
  N := N
  s_0 := s
  H_0 := H
  env := envS qual scope s.heap.objs.size f cd cc
  outer := outer
  stack := envS qual scope s.heap.objs.size f cd cc :: outer
  ex := []
  calm := true
  fn := fun _ => false
  pn := []
  xe := fun e s' => wpAny (model P w) (A.deeper (envS qual scope s.heap.objs.size f cd cc)) (leaving (envS qual scope s.heap.objs.size f cd cc) e) (fun _ s'' => CX outer H s E e s'') (fun e' s'' => CX outer H s E e' s'') s'

/-- what the written part says of such a class and its __init__ -/
structure SupTxt (K : PySem.W.Frag) (mg : Str → Option Value) (C f cc cda : Addr) (qual : Str) : Prop where
  ox : OexC K C
  iC : PySem.W.findIn K (.ref C) "__init__" = some (some (.ref f))
  tI : PySem.W.typeIn K (.ref f) = some (.type "function")
  code : ∃ ccl cdd vs ccs tf, K.lookup cda = some ⟨ccl, cdd, .fields vs, ccs⟩ ∧ vs[2]? = some (.str "/claim/cut.py" tf)
  codeQ : PySem.W.codeIn K (.ref cda) qual = true
  cell : ∃ cl cld csl, K.lookup cc = some ⟨cl, cld, .cell (some (.ref C)), csl⟩
  sup : PySem.W.ks_superIn K C C "__init__" = some (some (.builtin "ValueError.__init__"))
  sub : PySem.W.subIn K (.ref C) (.type "ValueError") = some true
  mro : PySem.W.mroIn K C (.ref C) = some true
  tp : PySem.W.nsIn K cStatics "thirdparty.any" = some none
  sg : mg "super" = none

structure SupScope (N ps : List Str) (sc : Scope) : Prop where
  kind : sc.kind = ScopeKind.function
  co : sc.isCoroutine = false
  gen : sc.isGenerator = false
  nd : N.Nodup
  pre : N = ps
  par : ∀ x, x ∈ ps → sc.names.lookup x = some NameKind.local
  cls : sc.names.lookup ("__class__" : Str) = some NameKind.free
  sup : sc.names.lookup ("super" : Str) = some NameKind.globalImplicit
  nocell : ∀ y : Str × NameKind, y ∈ sc.names → y.snd ≠ NameKind.cell
  free : ∀ y : Str × NameKind, y ∈ sc.names → y.snd = NameKind.free → y.fst = ("__class__" : Str)

theorem zip_get : ∀ {ps : List Str} {us : List Value} {i : Nat} {x : Str} {u : Value}, ps.Nodup → ps[i]? = some x → us[i]? = some u → ((ps.zip us).reverse).lookup x = some u := by
  intro ps us i x u nd e1 e2
  have hm : (x, u) ∈ ps.zip us := by
    have : (ps.zip us)[i]? = some (x, u) := by
      rw [List.getElem?_zip_eq_some]
      exact ⟨e1, e2⟩
    exact List.mem_of_getElem? this
  have uq : ∀ v, (x, v) ∈ ps.zip us → v = u := by
    intro v hv
    obtain ⟨j, hj⟩ := List.mem_iff_getElem?.mp hv
    rw [List.getElem?_zip_eq_some] at hj
    have : i = j := by
      have h1 := (List.getElem?_eq_some_iff.mp e1)
      have h2 := (List.getElem?_eq_some_iff.mp hj.1)
      obtain ⟨l1, q1⟩ := h1
      obtain ⟨l2, q2⟩ := h2
      exact (List.getElem_inj nd).mp (by rw [q1, q2])
    subst this
    rw [e2] at hj
    exact (Option.some.inj hj.2).symm
  have : ∀ l : List (Str × Value), (x, u) ∈ l → (∀ v, (x, v) ∈ l → v = u) → l.lookup x = some u := by
    intro l
    induction l with
    | nil => intro h; cases h
    | cons p l ih =>
      intro h k
      obtain ⟨y, v⟩ := p
      rw [List.lookup_cons]
      by_cases hy : x = y
      · subst hy
        simp only [beq_self_eq_true]
        rw [k v List.mem_cons_self]
      · have : (x == y) = false := by simpa using hy
        rw [this]
        refine ih ?_ fun v hv => k v (List.mem_cons_of_mem _ hv)
        rcases List.mem_cons.mp h with z | z
        · cases z; exact absurd rfl hy
        · exact z
  exact this _ (by simpa using hm) fun v hv => uq v (by simpa using hv)

section
variable {CX : CXT} {P : Program} {w : World} {K : PySem.W.Frag} {mg : Str → Option Value} {base : Heap} {k : Nat} {f C cc cda : Addr} {name qual : Str} {params : Arguments} {e : Expr} {p0 p1 p2 p3 p4 : Pos} {rest : List Stmt} {scope : Scope} {dV kV doc pm ct oc : Value} {an od : Option Addr}
    {osl : Array (Option Value)} {N ps : List Str} {sp : Sp}
theorem fnS_of (lk : K.lookup f = some ⟨oc, od, .func (PySem.W.ksFn name qual params (.Expr (.Call (.Attribute (.Call (.Name "super" p0) [] [] p1) "__init__" p2) [e] [] p3) p4 :: rest) scope dV kV doc pm an (.ref cda) ct cc), osl⟩)
    (T : SupTxt K mg C f cc cda qual) (S : SupScope N ps scope) (hfile : ((P.main.file : Str) == ("/claim/cut.py" : Str)) = true) (htop : (P.main.scope.names.lookup ("super" : Str)).isSome = false)
    (har : ∃ ar : Arg, (params.posonlyargs ++ params.args).head? = some ar ∧ ps.head? = some ar.arg)
    (len : ∀ vs H Q E, sp vs H Q E → vs.length = ps.length)
    (hswap : ∀ env : Env, swapsWith (.Call (.Attribute (.Call (.Name "super" p0) [] [] p1) "__init__" p2) [e] [] p3) none p4.line env = pure false)
    (hmeth : ∀ env : Env, eval (.Call (.Attribute (.Call (.Name "super" p0) [] [] p1) "__init__" p2) [e] [] p3) env = (do
      let ov ← attributeBase (.Call (.Name "super" p0) [] [] p1) "__init__" env (eval (.Call (.Name "super" p0) [] [] p1) env)
      standAt p2.atName
      let (f, first) ← holding [ov] (getMethod ov "__init__" (pure false))
      callWith p3 f first (backTo p3 (starEach [e] env)) []))
    (hstar : ∀ env : Env, starEach [e] env = (false, eval e env) :: starEach [] env)
    (hbody : ∀ (A : Around) (outer : List Env) (s : Shared) (H : Hp) (vs : List V) (Q : VK) (E : XK), Room k (A.deeper (envS qual scope s.heap.objs.size f (.ref cda) cc)) → sp vs H Q E →
      ∃ a te t, vs.head? = some (.ref a) ∧ H a = some (exo a C none) ∧ PE (cxS CX P w K mg base N qual scope f (.ref cda) cc A outer s H E) e te ∧ PSs (cxS CX P w K mg base N qual scope f (.ref cda) cc A outer s H E) rest t ∧
        te (L2.start N vs) H fun _ H1 => H1 a = some (exo a C none) ∧ t { nx := fun _ H' => Q .non H', rt := Q } (L2.start N vs) H1) :
    FnOk P w K mg base CX (k + 1) f (PySem.W.ksFn name qual params (.Expr (.Call (.Attribute (.Call (.Name "super" p0) [] [] p1) "__init__" p2) [e] [] p3) p4 :: rest) scope dV kV doc pm an (.ref cda) ct cc) ps sp := by
  refine ⟨len, fun A outer s H args us vs Q E hr e0 hb r hsp => ?_⟩
  have hl := len _ _ _ _ hsp
  have hul : us.length = ps.length := by rw [← r.length]; exact hl
  have KX : K.In s.heap := e0.mod.kin.keeps fun b o e => (e0.bs b o e).1
  have lim : s.heap.NoLimit := e0.mod.nolimit.keeps fun b o e => (e0.bs b o e).1
  obtain ⟨cl, cld, csl, hcell⟩ := T.cell
  obtain ⟨ccl, cdd, cvs, ccs, tf, hcode, hvs⟩ := T.code
  obtain ⟨ar, har1, har2⟩ := har
  refine ks_codeAny_call_defAt (fd := PySem.W.ksFn name qual params _ scope dV kV doc pm an (.ref cda) ct cc) (body := _) (binds := ps.zip us) hr.depth (KX _ _ lk) rfl lim (PySem.W.codeRec_of KX T.codeQ) rfl hb S.nocell
    (fun y hy => S.par y.1 (List.of_mem_zip hy).1) (fun h₀ hns hk => ?_) S.co S.gen S.kind
  obtain ⟨a, te, t, hva, hHa, hpe, hps, hq⟩ := hbody A outer s H vs Q E (hr.deeper _) hsp
  have I : Inv (cxS CX P w K mg base N qual scope f (.ref cda) cc A outer s H E) [] (L2.start N vs) H { s with heap := h₀, toks := s.toks + (ps.zip us).length } := by
    have noA : ∀ b : Addr, b ∉ (cxS CX P w K mg base N qual scope f (.ref cda) cc A outer s H E).ex := fun b z => absurd (show b ∈ ([] : List Addr) from z) (by simp)
    have one : ∀ (y : Str) (c : Addr), List.lookup y [(("__class__" : Str), cc)] = some c → c = cc := fun y c z => by
      rw [List.lookup_cons] at z
      split at z
      · exact (Option.some.inj z).symm
      · cases z
    have ccb : base.get? cc = some _ := e0.mod.kin _ _ hcell
    refine ⟨⟨e0.mod, S.kind, rfl, rfl, Nat.le_refl _, fun y z c h1 h2 => ?_, fun y hy => ?_, fun y c hf h => absurd (show false = true from hf) Bool.false_ne_true, fun _ => hr.hd, Around.frames_deeper e0.frames, .inr ⟨rfl, rfl⟩, fun b z => absurd z (noA b), e0.bs, e0.bsz, fun b _ _ => noA b, fun b z => absurd z (noA b), e0.funs, e0.frf⟩,
      rfl, e0.bare, Un.kept hk, ⟨_, hns, fun i y v h1 h2 h3 => ?_⟩, fun y c h => ?_, e0.hok.fresh (Nat.le_refl _), fun y c h => ?_, fun p hp => absurd (show p ∈ ([] : List (Addr × Obj)) from hp) (by simp), e0.hok.kept hk, ?_⟩
    · have h1 : List.lookup y [(("__class__" : Str), cc)] = some c := h1
      have h2 : List.lookup z [(("__class__" : Str), cc)] = some c := h2
      have ky : ∀ x : Str, List.lookup x [(("__class__" : Str), cc)] = some c → x = "__class__" := fun x z => by
        rw [List.lookup_cons] at z
        split at z
        · rename_i q; simpa using q
        · cases z
      rw [ky y h1, ky z h2]
    · have hy : scope.names.lookup y = some .cell ∨ scope.names.lookup y = some .free := hy
      rcases hy with hy | hy
      · exact absurd rfl (S.nocell _ (PySem.mem_of_lookup hy))
      · have := S.free _ (PySem.mem_of_lookup hy) rfl
        refine ⟨cc, ?_⟩
        show List.lookup y [(("__class__" : Str), cc)] = some cc
        rw [show y = ("__class__" : Str) from this]
        simp
    · have hi : i < vs.length := by
        unfold L2.start at h2
        by_cases hi : i < vs.length
        · exact hi
        · rw [List.getElem?_append_right (by simpa using hi)] at h2
          rw [List.getElem?_replicate] at h2
          split at h2 <;> cases h2
      have ha : vs[i]? = some v := by
        unfold L2.start at h2
        rw [List.getElem?_append_left (by simpa using hi), List.getElem?_map] at h2
        cases e : vs[i]? with
        | none => rw [e] at h2; cases h2
        | some a => rw [e] at h2; cases h2; rfl
      obtain ⟨u, hu, rv⟩ := r.get ha
      have hp : ps[i]? = some y := by rw [← S.pre]; exact h1
      refine ⟨u, rv, .inl ⟨S.par y (List.mem_of_getElem? hp), ?_⟩⟩
      exact zip_get (by rw [← S.pre]; exact S.nd) hp hu
    · have : c = cc := one y c h
      subst this
      exact ⟨_, _, hk _ _ (e0.bs _ _ ccb).1, rfl⟩
    · have : c = cc := one y c h
      subst this
      exact (e0.bs _ _ ccb).2
    · unfold L2.start
      show _ = N.length
      rw [List.length_append, List.length_map, List.length_replicate]
      have : N.length = ps.length := by rw [S.pre]
      omega
  have XK := I.kIn
  have ho := exo_at I.hok hHa
  obtain ⟨t0, ho⟩ := ho
  obtain ⟨mb, hb1, hb2⟩ := I.mod.blt
  have hgl := I.mod.glob.keeps I.bk
  have hbl := hb1.keeps I.bk
  -- self
  have hself : ∃ u, us.head? = some u ∧ u = Value.ref a := by
    cases vs with
    | nil => cases hva
    | cons v vs =>
      cases hva
      cases r with
      | cons r1 r2 => exact ⟨_, rfl, r1⟩
  obtain ⟨u0, hu0, rfl⟩ := hself
  have hlook : ((ps.zip us).reverse).lookup ar.arg = some (.ref a) := by
    refine zip_get (i := 0) (by rw [← S.pre]; exact S.nd) ?_ ?_
    · rw [← List.head?_eq_getElem?]; exact har2
    · rw [← List.head?_eq_getElem?]; exact hu0
  have hloc : scope.names.lookup ar.arg = some .local := S.par _ (List.mem_of_mem_head? har2)
  refine ks_wpAt_execs_cons (ks_wpAt_Expr_any (ks_wpAt_MethodCall ?_ (hmeth _)) (by show interactive _ = false; simp [interactive, PySem.callEnv, newEnv, S.kind]) (hswap _))
  obtain ⟨nm, qn, N', bs, bm, sn, sub, ab, col, dd, k0, k1, k2, k3, k5, hC, hbm⟩ := T.ox.cls
  have hCh := XK _ _ hC
  have hcl : PySem.W.clsIn K C = some { name := nm, bases := bs, mro := .ref C :: bm, ns := N', qualname := qn, hasDict := true, slotNames := sn, subclasses := sub, abstract := ab, collection := col, hasDel := false } := by unfold PySem.W.clsIn; rw [hC] <;> rfl
  refine ks_wpAt_super_base (env := envS qual scope s.heap.objs.size f (.ref cda) cc) S.sup S.cls (by decide) rfl (XK _ _ lk) rfl har1 rfl (XK _ _ hcode) rfl hvs hfile htop ?_
  refine PySem.W.ks_loadName_global S.kind S.sup (Calls.loadGlobal_builtin (env := envS qual scope s.heap.objs.size f (.ref cda) cc) hgl T.sg hbl ((hb2 _ (by decide +kernel)).trans (show bootBuiltins "super" = some (.type "super") by decide +kernel)) ⟨rfl, ?_⟩)
  refine wpAny_loadName_free S.kind S.cls rfl ⟨_, XK _ _ hcell, rfl⟩ ?_
  refine wpAny_loadName_local S.kind hloc hns hlook ?_
  have Ia : PySem.W.InstAt h₀ a { cls := .ref C, dict := none, data := .fields #[.ref t0, .none, .none, .none, .bool false, .none] } C none := ⟨ho, rfl, rfl, trivial⟩
  refine ks_wpAny_isType_cls hCh rfl ⟨rfl, ?_⟩
  refine ks_wpAny_call_super hCh rfl ho rfl (fun c z => nomatch z) (PySem.W.looks_mroIn XK T.mro) (fun h1 e1 kk1 => ?_)
  have I1 := I.kept (t' := s.toks + (ps.zip us).length) kk1
  have hIs : PySem.W.Looks (model P w) h1 (isInstance (.ref a) (.type "ValueError")) true := (PySem.W.InstAt.type (M := model P w) (⟨kk1 _ _ ho, rfl, rfl, trivial⟩ : PySem.W.InstAt h1 a { cls := .ref C, dict := none, data := .fields #[.ref t0, .none, .none, .none, .bool false, .none] } C none)).andThen (PySem.W.looks_subIn I1.kIn T.sub)
  have hsup := T.sup
  unfold PySem.W.ks_superIn at hsup
  rw [hcl] at hsup
  refine PySem.W.kxs_getMethod PySem.W.kxs_ValueError e1 (PySem.W.looks_opaque I1.kIn T.tp) (l₀ := .ref C :: bm) ?_ rfl I1.kIn hsup hIs (PySem.W.ks_ne XK Ia hcl) (by decide) ?_
  · exact fun A Q E s k q => wpAny_bind ((PySem.W.looks_clsIn I1.kIn hcl) A _ E s k (wpAny_pure q))
  have I2 := I1.kept (t' := s.toks + (ps.zip us).length + 1) (h' := h1.push (PySem.W.kxs_mw "ValueError.__init__" a)) (fun b u z => Heap.get?_push_of_some _ z)
  rw [hstar]
  refine PySem.W.kxs_callWith (i := "ValueError.__init__") (x := a) rfl (Calls.evalArgs_plain ?_)
  -- pins: the bound wrapper stands while the argument is reckoned
  have hmw : (h1.push (PySem.W.kxs_mw "ValueError.__init__" a)).get? h1.objs.size = some (PySem.W.kxs_mw "ValueError.__init__" a) := Heap.get?_push_at rfl rfl
  have Hn : H h1.objs.size = none := I1.hok.fresh (Nat.le_refl _)
  have I3 : Inv (cxS CX P w K mg base N qual scope f (.ref cda) cc A outer s H E) [(h1.objs.size, PySem.W.kxs_mw "ValueError.__init__" a)] (L2.start N vs) H _ := I2.pins_of fun p hp => by
    rw [List.mem_singleton] at hp
    subst hp
    refine ⟨hmw, Hn, fun z => ?_, I1.nofs (Nat.le_refl _), fun v z => nomatch z⟩
    exact absurd I1.lt (by rw [← z]; exact Nat.lt_irrefl _)
  refine Calls.spliced_cons (thn (hpe.run _ _ _ _ _ I3 hq) fun v s4 ⟨x, H1, I4, rx, hHa1, hq4⟩ => Calls.spliced_nil ?_)
  have hmw4 := (I4.pin (h1.objs.size, PySem.W.kxs_mw "ValueError.__init__" a) (by simp)).1
  refine ⟨hmw4, ?_⟩
  obtain ⟨t4, ho4⟩ := exo_at I4.hok hHa1
  obtain ⟨hp, gg, dr, tk, os⟩ := s4
  refine call_bwV (I4.kIn _ _ hC) ho4 hmw4 (by show 1 ≤ sizeLine; decide) fun h' t5 kk5 hx5 => ?_
  have J := I4.write (t' := tk) (x := a) (e := a) (o := exo a C none) (by rw [hHa1]; exact True.intro) (.inl rfl) kk5 ⟨_, hx5⟩ (exo_ok hx5)
  have eu : upd H1 a (exo a C none) = H1 := by
    funext b
    by_cases hb : b = a
    · rw [hb, upd_same, hHa1]
    · rw [upd_ne hb]
  rw [eu] at J
  refine wpAt_of_wpAny (wpAny_mono (hps.run _ _ _ _ _ J hq4) (fun fl s' hs => ?_) fun e s' hs => hs)
  have fin : ∀ {σ' : L2.St} {H' : Hp} {v : V} {u : Value} {pn : List (Addr × Obj)}, Inv (cxS CX P w K mg base N qual scope f (.ref cda) cc A outer s H E) pn σ' H' s' → RelV v u → Q v H' → CE outer P w H s Q u s' :=
    fun {σ' H' v u pn} J rv q => ⟨v, H', J.os, J.bare, J.base, J.hok, rv, q⟩
  cases fl with
  | ret u =>
    obtain ⟨v, σ', H', J, rv, q⟩ := hs
    exact fin J rv q
  | next =>
    obtain ⟨σ', H', J, q⟩ := hs
    exact fin (v := V.non) (u := Value.none) J rfl q
  | brk =>
    obtain ⟨_, _, _, q⟩ := hs
    exact False.elim q
  | cont =>
    obtain ⟨_, _, _, q⟩ := hs
    exact False.elim q
end
end ML

set_option maxHeartbeats 4000000
namespace ML
open PySem PySem.Spec PyProof.Rows L2

/-! ### an exception that is caught stands in the abstract heap from then on -/
section
variable {X : Cx} {pins : List (Addr × Obj)} {σ : L2.St} {H : Hp} {s : Shared}
theorem exv_ok {P : Program} {w : World} {H : Hp} {h : Heap} {a : Addr} {cls : Value} {d : Option Addr} {oe : Obj} {vs : Array Value} (e : h.get? a = some oe) (z : Zc cls d oe) (hd : oe.data = .fields vs) : ObjOk P w H h a (ExV cls d a) :=
  ⟨⟨oe, vs, e, z, hd⟩, ⟨oe, e⟩, fun _ _ ⟨o, v, q, r⟩ k => ⟨o, v, k o q, r⟩⟩
/-- an object that came behind the entry is tracked from now on -/
theorem Inv.track {a : Addr} {o : HO} (I : Inv X pins σ H s) (hn : H a = none) (h0 : X.s_0.heap.get? a = none) (hp : ∀ p ∈ X.pn ++ pins, p.1 ≠ a) (hL : a ≠ X.env.locals) (hc : ∀ x c, X.env.cells.lookup x = some c → c ≠ a)
    (new : ObjOk X.prog X.w (upd H a o) s.heap a o) : Inv X pins σ (upd H a o) s := by
  have nb : ∀ b ob, X.s_0.heap.get? b = some ob → b ≠ a := fun b ob e z => by rw [z, h0] at e; cases e
  refine ⟨I.ok, I.os, I.bare, ⟨I.base.keep, I.base.slot, fun b ob e n hb => ?_, I.base.there, fun b xs e => ?_, fun b ob u e => ?_, fun b ps e => ?_⟩, I.loc, I.cell, ?_, fun x c e => ?_, fun p hp' => ?_, fun b u e => ?_, I.len⟩
  · rw [upd_ne (nb b ob e)]; exact I.base.free b ob e n hb
  · have q := I.base.tups b xs e; rw [upd_ne (ne_of_none q hn)]; exact q
  · have q := I.base.frzs b ob u e; rw [upd_ne (ne_of_none q hn)]; exact q
  · obtain ⟨m, q⟩ := I.base.tbls b ps e; exact ⟨m, by rw [upd_ne (ne_of_none q hn)]; exact q⟩
  · rw [upd_ne hL.symm]; exact I.free
  · rw [upd_ne (hc x c e)]; exact I.freeC x c e
  · obtain ⟨q1, q2, q3⟩ := I.pin p hp'
    exact ⟨q1, by rw [upd_ne (hp p hp')]; exact q2, q3⟩
  · by_cases hb : b = a
    · subst hb
      rw [upd_same] at e
      cases e
      exact new
    · rw [upd_ne hb] at e
      exact (I.hok b u e).stay (fun c v _ q => q) (fun c q => by rw [upd_ne (ne_of_none q hn)]; exact q) fun c xs q => by rw [upd_ne (ne_of_none q hn)]; exact q

/-- the suite's context, the exception tracked -/
theorem Inv.suiteT {H : Hp} (I : Inv X pins σ H s) (a : Addr) : Inv (X.suite a (X.pn ++ pins)) [] σ H s :=
  ⟨I.ok.suite _ _, I.os, I.bare, I.base, I.loc, I.cell, I.free, I.freeC, fun p hp => I.pin p (by simpa using hp), I.hok, I.len⟩
theorem Inv.unsuiteT {a : Addr} {pn' : List (Addr × Obj)} (I : Inv (X.suite a (X.pn ++ pins)) pn' σ H s) (ok : X.Ok) : Inv X pins σ H s :=
  ⟨ok, I.os, I.bare, I.base, I.loc, I.cell, I.free, I.freeC, fun p hp => I.pin p (List.mem_append_left _ hp), I.hok, I.len⟩
end
/-- what the clause 'except x as n' wishes of an exception of the body: slot i is n's; the exception is tracked -/
def wAsT (K : PySem.W.Frag) (c : Value) (i : Nat) (ts : TS) (Wout : WX) (D : Ends) : WX := fun cls d σ H =>
  ∃ b, PySem.W.exmOne K cls c = some b ∧ (b = true → ∀ a, H a = none → ts { nx := fun σ' H' => D.nx (σ'.set i none) H', rt := D.rt, bk := fun σ' H' => D.bk (σ'.set i none) H', ct := fun σ' H' => D.ct (σ'.set i none) H' } (σ.set i (some (.ref a))) (upd H a (ExV cls d a))) ∧
    (b = false → Wout cls d σ H)
section
variable {X : Cx} {x n : Str} {c : Value} {i : Nat} {body suite : List Stmt} {b₀ : Stmt} {np pos pos' : Pos} {tb : WX → TS} {ts : TS} {Wout : WX}
theorem ps_try_asT (hs : X.stack = X.env :: X.outer) (hf : X.env.frame = some X.env.locals) (hex : X.ex = []) (hN : X.N.Nodup) (hi : X.N[i]? = some n) (hln : X.env.kindOf n = some .local) (hc : Names X x c) (tk : Takes X Wout)
    (hb : ∀ (W : WX) (pn : List (Addr × Obj)) (xe : Value → Shared → Prop), Takes (X.tr pn xe) W → PassesOwn (model X.prog X.w) X.A X.env xe → PSs (X.tr pn xe) body (tb W))
    (hsu : ∀ (a : Addr) (pn : List (Addr × Obj)), PSs (X.suite a pn) (b₀ :: suite) ts) :
    PS X (.Try body [.ExceptHandler (some (.Name x np)) (some n) (b₀ :: suite) pos'] [] [] pos) (fun D σ H => tb (wAsT X.K c i ts Wout D) D σ H) := by
  refine ⟨fun pins s σ H D I h => ?_⟩
  have ok := I.ok
  have hfr : X.A.frames = some (X.env :: X.outer) := by rw [ok.frames, hs]
  have hloc : Loc X.env.scope n := .inl hln
  refine wpAny_Try_except ?_
  refine wpAny_mono ((hb (wAsT X.K c i ts Wout D) (X.pn ++ pins) (fun e s₁ => wpAny (model X.prog X.w) X.A (noteFrame e X.env) (fun _ s₂ => wpAny (model X.prog X.w) X.A (setFlight e none) (fun _ s₃ =>
    wpAny (model X.prog X.w) X.A (handleBy e X.env [.ExceptHandler (some (.Name x np)) (some n) (b₀ :: suite) pos']) (SP X pins D) X.xe s₃) X.xe s₂) X.xe s₁) (fun u s' xx => ?_) PassesOwn.looking).run [] s σ H D (I.toTry _) h) (fun f s1 hsp => ?_) (fun e s1 he => he)
  · obtain ⟨a, B, sI, pins', σ', H', cls, d, rfl, J', nb, up, sky, na, os, ag, b, hb1, hyes, hno⟩ := xx
    have J : Inv X pins σ' H' sI := J'.ofTry ok
    have sky' : Sky B (X.env :: X.outer) a (Zc cls d) X.env.locals s'.heap := by rw [← hs]; exact sky
    show wpAny (model X.prog X.w) X.A (noteFrame (.ref a) X.env) _ _ _
    refine Sky.land Zc.steady hfr hf sky' fun h3 fl3 up3 => ?_
    have J3 : Inv X pins σ' H' { s' with heap := h3 } := J.landed nb fl3.1 (up.trans up3) os ag
    obtain ⟨oe3, vs3, he3, hz3, hd3⟩ := fl3.there
    have notFr : ∀ {h : Heap} {o : Obj} {vs : Array Value}, h.FunFrames B (X.env :: X.outer) → h.get? a = some o → o.data = .fields vs → a ∉ frs (X.env :: X.outer) := fun {h o vs} ff e dd hm => by
      obtain ⟨_, o', e', hnf⟩ := ff.mem hm
      rw [e] at e'; cases e'
      exact hnf _ dd
    have nfr := notFr fl3.2.2.1 he3 hd3
    have nL : a ≠ X.env.locals := fun z => nfr (List.mem_filterMap.mpr ⟨X.env, List.mem_cons_self, by rw [hf, z]⟩)
    have nF : a ∉ X.fs := fun hm => by
      obtain ⟨e, he, q⟩ := List.mem_filterMap.mp hm
      exact nfr (List.mem_filterMap.mpr ⟨e, List.mem_cons_of_mem _ he, q⟩)
    -- it is none of what stood before it was made
    have nI : sI.heap.get? a = none := by
      cases q : sI.heap.get? a with
      | none => rfl
      | some o =>
        have z := nb a o q (by rw [hs]; exact nfr)
        rw [fl3.2.1] at z
        cases z
    have n0 : X.s_0.heap.get? a = none := by
      cases q : X.s_0.heap.get? a with
      | none => rfl
      | some o =>
        obtain ⟨o', z⟩ := J.base.there a o q (by rw [hex]; exact fun z => nomatch z)
        rw [nI] at z
        cases z
    have nP : ∀ p ∈ X.pn ++ pins, p.1 ≠ a := fun p hp z => by
      have q := (J.pin p hp).1
      rw [z, nI] at q
      cases q
    have nC : ∀ x c, X.env.cells.lookup x = some c → c ≠ a := fun x c e z => by
      obtain ⟨v, o, q, _⟩ := J.cell x c e
      rw [z, nI] at q
      cases q
    refine wpAny_handleBy_cons (codeAny_handlers_test ?_) (by intro q; cases q)
    have LT : PySem.W.Looks (model X.prog X.w) h3 (typeOf (.ref a)) cls := fun A Q E s k q => wpAny_typeOf_ref (k _ _ he3) (by rw [hz3.1]; exact q)
    have LM := PySem.W.exm_one (M := model X.prog X.w) (J3.kIn) LT hb1
    have S3 := J3.suite he3 hd3 na nL nF
    have test : ∀ {Q : Value → Shared → Prop} {E : Value → Shared → Prop}, Q c { s' with heap := h3 } → wpAny (model X.prog X.w) (X.A.mark (some (.ref a))) (eval (.Name x np) X.env) Q E { s' with heap := h3 } := fun {Q E} q => by
      obtain ⟨hg, hdbg, hm | ⟨hm, hv, hnn⟩⟩ := hc
      · exact ld_glob (X := X.suite a ((a, oe3) :: (X.pn ++ pins))) S3 hg hm q hdbg
      · exact ld_blt (X := X.suite a ((a, oe3) :: (X.pn ++ pins))) S3 hg hm hv q hnn hdbg
    refine test (LM.here ?_)
    cases b with
    | true =>
      refine codeAny_handlers_suite_as ?_
      refine HandSPX.lands_againZ fl3 fun h4 fl4 up4 => ?_
      have J4 : Inv X pins σ' H' { s' with heap := h4 } := J.landed nb fl4.1 ((up.trans up3).trans up4) os ag
      obtain ⟨oe4, vs4, he4, hz4, hd4⟩ := fl4.there
      have J5 := Inv.track (o := ExV cls d a) J4 na n0 nP nL nC (exv_ok he4 hz4 hd4)
      have S4 := Inv.suiteT J5 a
      refine store_ok (X := X.suite a (X.pn ++ pins)) (v := .ref a) S4 hN hi hloc rfl (fun s5 S5 => ?_) (.inr hln)
      refine wpAny_mono ((hsu a (X.pn ++ pins)).run [] s5 _ (upd H' a (ExV cls d a)) _ S5 (hyes rfl a na)) (fun f s6 hsp => ?_) (fun _ _ z => False.elim z)
      have end_ : ∀ {σ6 : L2.St} {H6 : Hp} {Q : Shared → Prop}, Inv (X.suite a (X.pn ++ pins)) [] σ6 H6 s6 → (∀ s7, Inv X pins (σ6.set i none) H6 s7 → Q s7) →
          wpAny (model X.prog X.w) X.A (do bindName X.env n .none; unbindBehindTheSuite X.env n pos') (fun _ s7 => Q s7) X.xe s6 := fun {σ6 H6 Q} S6 hq => gone_ok (Inv.unsuiteT S6 ok) hN hi hln hq
      cases f with
      | next =>
        obtain ⟨σ6, H6, S6, q6⟩ := hsp
        exact end_ S6 fun s7 J7 => ⟨_, _, J7, q6⟩
      | brk =>
        obtain ⟨σ6, H6, S6, q6⟩ := hsp
        exact end_ S6 fun s7 J7 => ⟨_, _, J7, q6⟩
      | cont =>
        obtain ⟨σ6, H6, S6, q6⟩ := hsp
        exact end_ S6 fun s7 J7 => ⟨_, _, J7, q6⟩
      | ret u =>
        obtain ⟨v6, σ6, H6, S6, r6, q6⟩ := hsp
        exact end_ S6 fun s7 J7 => ⟨_, _, _, J7, r6, q6⟩
    | false =>
      show wpAny _ X.A (handleBy (.ref a) X.env []) _ _ _
      refine wpAny_handleBy_nil ?_
      obtain ⟨k1, k2, k3, oe, vs, T, oT, ts', he, hz, hd, h1, hr⟩ := id fl3
      unfold PySem.passOn
      refine wpAny_bind (wpAny_field he hd h1 ?_)
      rw [if_neg (show ¬ ((Value.ref T == Value.none) = true) from by simp)]
      have fin : wpAny (model X.prog X.w) X.A (setFlight (.ref a) X.env.frame) (fun _ s4 => wpAny (model X.prog X.w) X.A (throw (.ref a) : Sem Flow) (SP X pins D) X.xe s4) X.xe { s' with heap := h3 } := by
        rw [hf]
        refine HandSPX.setFlight_upZ fl3 fun h4 hh4 up4 => wpAny_throw (tk _ _ ?_)
        exact ⟨a, B, sI, pins, σ', H', cls, d, rfl, J, nb, (up.trans up3).trans up4, .inr (.inr (by rw [hs]; exact hh4)), na, os, ag, hno rfl⟩
      first
        | exact wpAny_bind (wpAny_pure (wpAny_bind fin))
        | exact wpAny_bind fin
  · cases f with
    | next =>
      obtain ⟨σ', H', J', q⟩ := hsp
      exact wpAny_execs_nil ⟨σ', H', J'.ofTry ok, q⟩
    | brk =>
      obtain ⟨σ', H', J', q⟩ := hsp
      exact ⟨σ', H', J'.ofTry ok, q⟩
    | cont =>
      obtain ⟨σ', H', J', q⟩ := hsp
      exact ⟨σ', H', J'.ofTry ok, q⟩
    | ret u =>
      obtain ⟨v, σ', H', J', r, q⟩ := hsp
      exact ⟨v, σ', H', J'.ofTry ok, r, q⟩
end

/-! ### e.f, isinstance(e, C) of such an exception -/
/-- what an own error's class must say -/
structure ExcK (K : PySem.W.Frag) (C : Addr) : Prop where
  cl : (PySem.W.clsIn K C).isSome = true
  ga : PySem.W.findIn K (.ref C) "__getattribute__" = some (some (.builtin "BaseException.__getattribute__"))
  gg : PySem.W.findIn K (.ref C) "__getattr__" = some none
  sb : PySem.W.subIn K (.ref C) (.type "BaseException") = some true
  hd : PySem.W.hasDictIn K C = true
  ha : PySem.W.findIn K (.ref C) "__class__" = some (some (.builtin "object.__class__"))
  hn : PySem.W.specialIn K (.builtin "object.__class__") "__get__" = some (some (.builtin "getset_descriptor.__get__"))
  ht : PySem.W.takesIn K (.builtin "object.__class__") = some true
  hm : PySem.W.mroIn K C (.type "object") = some true
section
variable {X : Cx} {pins : List (Addr × Obj)} {σ : L2.St} {H : Hp} {s : Shared}
theorem exv_at {P : Program} {w : World} {H : Hp} {h : Heap} {a : Addr} {cls : Value} {d : Option Addr} (hok : HOk P w H h) (he : H a = some (ExV cls d a)) : ∃ (oe : Obj) (vs : Array Value), h.get? a = some oe ∧ Zc cls d oe ∧ oe.data = .fields vs := by
  have x : ObjOk P w H h a (.ext fun h => ∃ (oe : Obj) (vs : Array Value), h.get? a = some oe ∧ Zc cls d oe ∧ oe.data = .fields vs) := hok a _ he
  exact x.1
theorem exv_inst (I : Inv X pins σ H s) {a C : Addr} {d : Option Addr} (he : H a = some (ExV (.ref C) d a)) (hd : d = none ∨ ∃ dd gs, d = some dd ∧ H dd = some (.xd gs)) : ∃ oe od, PySem.W.InstAt s.heap a oe C od := by
  obtain ⟨oe, vs, e, z, q⟩ := exv_at I.hok he
  have hno : PySem.W.notCls oe = true := by unfold PySem.W.notCls; rw [q] <;> rfl
  rcases hd with rfl | ⟨dd, gs, rfl, ed⟩
  · exact ⟨oe, none, e, z.1, hno, by rw [z.2]; trivial⟩
  · have hx : ObjOk X.prog X.w H s.heap dd (.xd gs) := I.hok dd _ ed
    obtain ⟨mA, hns, hr⟩ := hx
    obtain ⟨od, ho, hl⟩ := lookIn_ns hns
    exact ⟨oe, some od, e, z.1, hno, by rw [z.2]; exact ho⟩
/-- e.f: of an instance, or of a caught exception -/
def tFldX (K : PySem.W.Frag) (ta : TE) (f : Str) : TE := fun σ H Q => ta σ H fun x H1 => (∃ a C dx fs v, x = .ref a ∧ H1 a = some (.ins C dx fs) ∧ Cls K C ∧ NoAttr K C f ∧ fs.lookup f = some v ∧ Q v H1) ∨
  (∃ a C dd gs v, x = .ref a ∧ H1 a = some (ExV (.ref C) (some dd) a) ∧ ExcK K C ∧ PySem.W.findIn K (.ref C) f = some none ∧ H1 dd = some (.xd gs) ∧ gs.lookup f = some v ∧ Q v H1)
theorem pe_fldX {e : Expr} {ta : TE} {f : Str} {pos : Pos} (he : PE X e ta) (hb : attributeBase e f X.env (eval e X.env) = eval e X.env := by rfl) : PE X (.Attribute e f pos) (tFldX X.K ta f) := by
  refine ⟨fun pins s σ H Q I h => attr_of hb (thn (he.run pins s σ H _ I h) fun u s1 hh => ?_)⟩
  obtain ⟨x, H1, I1, rx, hh⟩ := hh
  rcases hh with ⟨a, C, dx, fs, v, rfl, ea, c, n, l, q⟩ | ⟨a, C, dd, gs, v, rfl, ea, c, n, ed, l, q⟩
  · obtain rfl : u = Value.ref a := rx
    exact getattr_ok I1 ea c n l fun u s' I2 r => ⟨v, H1, I2, r, q⟩
  · obtain rfl : u = Value.ref a := rx
    obtain ⟨oe, vs, e1, z, hd⟩ := exv_at I1.hok ea
    have hx : ObjOk X.prog X.w H1 s1.heap dd (.xd gs) := I1.hok dd _ ed
    obtain ⟨mA, hns, hr⟩ := hx
    obtain ⟨od, ho, hl⟩ := lookIn_ns hns
    obtain ⟨u, hu, ru⟩ := RelO.some_of (v := v) (o := mA f) (by rw [← l]; exact hr f)
    have J : PySem.W.InstAt s1.heap a oe C (some od) := ⟨e1, z.1, by unfold PySem.W.notCls; rw [hd] <;> rfl, by rw [z.2]; exact ho⟩
    exact HandSPX.exc_get I1.kIn J c.ga c.gg c.sb (PySem.W.findObj_own c.hd n rfl (by rw [hl, hu])) (handed_of ru) ⟨v, H1, I1.tok _, ru, q⟩
/-- isinstance(e, c) of a caught exception -/
def rIsV (K : PySem.W.Frag) : List V → Hp → VK → Prop := fun xs H Q => ∃ (a C : Addr) (d : Option Addr) (c : V) (u : Value) (b : Bool), xs = [.ref a, c] ∧ ClsV c u ∧ H a = some (ExV (.ref C) d a) ∧ (d = none ∨ ∃ dd gs, d = some dd ∧ H dd = some (.xd gs)) ∧ ExcK K C ∧
  PySem.W.kitOne K (.ref C) u = some b ∧ Q (.bl b) H
theorem call_isV : CallR X (.builtin "isinstance") (rIsV X.K) := by
  intro pins s σ H xs us Q I r h
  obtain ⟨a, C, d, c, u, b, rfl, k, ea, hd, T, e, q⟩ := h
  obtain ⟨u1, u2, rfl, r1, r2⟩ := vals2 r
  have e2 := k.eq r2
  subst e2
  obtain rfl : u1 = Value.ref a := r1
  obtain ⟨oe, od, J⟩ := exv_inst I ea hd
  exact PySem.W.kia_one (PySem.W.kitx_exc T.cl T.ga T.gg T.sb T.ha T.hn T.ht T.hm) I.kIn J e (fun z => nomatch z) fun tk => ⟨.bl b, H, I.tok tk, rfl, q⟩
end
end ML

set_option maxHeartbeats 4000000
namespace ML
open PySem L2
section
variable {G : Gm} {Wx : WX} {μ μ' : Nat → Addr} {h h' : Hm} {H H' : Hp} {ρ : Ev} {σ : L2.St}

/-! ### e.f -/
structure AtX (G : Gm) (f : Str) (ins exc : Nat → Bool) : Prop where
  ins : ∀ c, ins c = true → Cls G.K (G.ca c) ∧ NoAttr G.K (G.ca c) f
  exc : ∀ c, exc c = true → ExcK G.K (G.ca c) ∧ PySem.W.findIn G.K (.ref (G.ca c)) f = some none
def mAttrX (f : Str) (ins exc : Nat → Bool) (o : ME) : ME := fun ρ h => bnd (o ρ h) fun x h1 => match x with
  | .ref i => match h1[i]? with
    | some (.ins c fs) => if ins c = true then match fget f fs with
        | some w => some (.ok w h1)
        | none => none
      else none
    | some (.exc c fs) => if exc c = true then match fget f fs with
        | some w => some (.ok w h1)
        | none => none
      else none
    | _ => none
  | _ => none
theorem w_attrX {f : Str} {ins exc : Nat → Bool} {o : ME} (a : AtX G f ins exc) : ∀ σ H Q, tE G Wx (mAttrX f ins exc o) σ H Q → tFldX G.K (tE G Wx o) f σ H Q := fun σ H Q ⟨μ, ρ, h, s, p⟩ =>
  ⟨μ, ρ, h, s, (Post.bnd p).mono fun μ1 h1 H1 wx g q x rx => by
    cases wx with
    | ref i =>
      simp only [RU] at rx
      obtain ⟨hi, rfl⟩ := rx
      simp only at q
      split at q
      · rename_i c fs ec
        split at q
        · rename_i hc
          split at q
          · rename_i w ew
            obtain ⟨dx, gs, ea, rf⟩ := g.rel.cell i _ ec
            obtain ⟨v, ev, rv⟩ := fget_ok ew rf
            obtain ⟨c1, c2⟩ := a.ins c hc
            exact .inl ⟨_, _, dx, gs, v, rfl, ea, c1, c2, ev, Post.ok g.rel q _ rv⟩
          · exact False.elim q
        · exact False.elim q
      · rename_i c fs ec
        split at q
        · rename_i hc
          split at q
          · rename_i w ew
            obtain ⟨cls, d, ea, ecl, rx⟩ := g.rel.cell i _ ec
            subst ecl
            rcases rx with ⟨rfl, _⟩ | ⟨dd, gs, rfl, ed, rf⟩
            · cases ew
            · obtain ⟨v, ev, rv⟩ := fget_ok ew rf
              obtain ⟨c1, c2⟩ := a.exc c hc
              exact .inr ⟨_, _, dd, gs, v, rfl, ea, c1, c2, ed, ev, Post.ok g.rel q _ rv⟩
          · exact False.elim q
        · exact False.elim q
      · exact False.elim q
    | _ => exact False.elim q⟩

/-! ### isinstance -/
inductive TyK where
  | non | bl | int | str | lst | tup | ins (c : Nat) | exc (c : Nat)
def tyK (w : U) (h : Hm) : Option TyK := match w with
  | .non => some .non
  | .bl _ => some .bl
  | .int _ => some .int
  | .str _ => some .str
  | .tup _ => some .tup
  | .ref i => match h[i]? with
    | some (.lst _) => some .lst
    | some (.ins c _) => some (.ins c)
    | some (.exc c _) => some (.exc c)
    | _ => none
def tyVal (ca : Nat → Addr) : TyK → Value
  | .non => .type "NoneType"
  | .bl => .type "bool"
  | .int => .type "int"
  | .str => .type "str"
  | .lst => .type "list"
  | .tup => .type "tuple"
  | .ins c => .ref (ca c)
  | .exc c => .ref (ca c)
/-- what an own class must say, so that isinstance asks its instances rightly -/
structure InsK (K : PySem.W.Frag) (C : Addr) : Prop where
  cl : Cls K C
  ha : PySem.W.findIn K (.ref C) "__class__" = some (some (.builtin "object.__class__"))
  hn : PySem.W.specialIn K (.builtin "object.__class__") "__get__" = some (some (.builtin "getset_descriptor.__get__"))
  htk : PySem.W.takesIn K (.builtin "object.__class__") = some true
  hm : PySem.W.mroIn K C (.type "object") = some true
/-- the answers for the class u -/
structure IsiC (G : Gm) (tab : TyK → Option Bool) (cv : V) (u : Value) : Prop where
  cls : ClsV cv u
  ok : ∀ k b, tab k = some b → PySem.W.kitOne G.K (tyVal G.ca k) u = some b
  ins : ∀ c b, tab (.ins c) = some b → InsK G.K (G.ca c)
  exc : ∀ c b, tab (.exc c) = some b → ExcK G.K (G.ca c)
def mIsi (tab : TyK → Option Bool) (a : ME) : ME := fun ρ h => bnd (a ρ h) fun w h1 => match tyK w h1 with
  | some k => match tab k with
    | some b => some (.ok (.bl b) h1)
    | none => none
  | none => none
theorem w_isi {tab : TyK → Option Bool} {cv : V} {u : Value} {a : ME} (t : IsiC G tab cv u) : ∀ σ H Q, tE G Wx (mIsi tab a) σ H Q → tCB (fun xs H Q => rIsi G.K xs H Q ∨ rIsV G.K xs H Q) (tCons (tE G Wx a) (tCons (tC cv) tNil)) σ H Q := fun σ H Q ⟨μ, ρ, h, s, p⟩ =>
  ⟨μ, ρ, h, s, (Post.bnd p).mono fun μ1 h1 H1 w g q v r => by
    show (rIsi G.K [v, cv] H1 Q ∨ rIsV G.K [v, cv] H1 Q)
    split at q
    · rename_i k ek
      split at q
      · rename_i b eb
        have e := t.ok k b eb
        have fin : ∀ tv, TyX G.K H1 v tv → tv = tyVal G.ca k → rIsi G.K [v, cv] H1 Q := fun tv ty etv => by
          subst etv
          exact ⟨v, cv, _, u, b, rfl, t.cls, ty, e, Post.ok g.rel q _ rfl⟩
        cases w with
        | non => cases ek; simp only [RU] at r; subst r; exact .inl (fin _ (.base .non) rfl)
        | bl x => cases ek; simp only [RU] at r; subst r; exact .inl (fin _ (.base (.bl x)) rfl)
        | int x => cases ek; simp only [RU] at r; subst r; exact .inl (fin _ (.base (.int x)) rfl)
        | str x => cases ek; simp only [RU] at r; subst r; exact .inl (fin _ (.base (.str x)) rfl)
        | tup ws =>
          cases ek
          simp only [RU] at r
          obtain ⟨a, xs, rfl, st, _⟩ := r
          rcases st with (st | ⟨o, st⟩) | ⟨o, its, n, hk, hc, _⟩
          · exact .inl (fin _ (.base (.tup st)) rfl)
          · exact .inl (fin _ (.fTuple st) rfl)
          · exact .inl (fin _ (.kTuple hk hc) rfl)
        | ref i =>
          simp only [RU] at r
          obtain ⟨hi, rfl⟩ := r
          unfold tyK at ek
          simp only at ek
          split at ek
          · rename_i ws ec
            cases ek
            obtain ⟨xs, ea, _⟩ := g.rel.cell i _ ec
            exact .inl (fin _ (.base (.lst ea)) rfl)
          · rename_i c fs ec
            cases ek
            obtain ⟨dx, gs, ea, _⟩ := g.rel.cell i _ ec
            have z := t.ins c b eb
            exact .inl (fin _ (.base (.ins ea z.cl z.ha z.hn z.htk z.hm)) rfl)
          · rename_i c fs ec
            cases ek
            obtain ⟨cls, d, ea, ecl, rx⟩ := g.rel.cell i _ ec
            subst ecl
            refine .inr ⟨_, _, d, cv, u, b, rfl, t.cls, ea, ?_, t.exc c b eb, e, Post.ok g.rel q _ rfl⟩
            rcases rx with ⟨_, rfl⟩ | ⟨dd, gs, rfl, ed, _⟩
            · exact .inl rfl
            · exact .inr ⟨dd, gs, rfl, ed⟩
          · cases ek
      · exact False.elim q
    · exact False.elim q⟩

/-! ### try: body, except c as n (slot i): suite -/
def tryEnd (i : Nat) : Option Sz → Option Sz
  | some (.nx ρ h) => some (.nx (ρ.set i none) h)
  | some (.bk ρ h) => some (.bk (ρ.set i none) h)
  | some (.ct ρ h) => some (.ct (ρ.set i none) h)
  | r => r
def mTry (tab : Nat → Option Bool) (i : Nat) (body suite : MS) : MS := fun ρ h => match body ρ h with
  | some (.ex c fs ρ1 h1) => match tab c with
    | some true => match suite (ρ1.set i (some (.ref h1.length))) (h1 ++ [.exc c fs]) with
      | some (.ex _ _ _ _) => none
      | r => tryEnd i r
    | some false => some (.ex c fs ρ1 h1)
    | none => none
  | r => r
/-- the clause's class: whom it takes -/
def TakC (G : Gm) (tab : Nat → Option Bool) (c : Value) : Prop := ∀ k b, tab k = some b → PySem.W.exmOne G.K (.ref (G.ca k)) c = some b
theorem w_try {tab : Nat → Option Bool} {c : Value} {i : Nat} {body suite : MS} (t : TakC G tab c) : ∀ D σ H, tS G Wx (mTry tab i body suite) D σ H → tS G (wAsT G.K c i (tS G (fun _ _ _ _ => False) suite) Wx D) body D σ H := fun D σ H ⟨μ, ρ, h, s, p⟩ => by
  refine ⟨μ, ρ, h, s, ?_⟩
  unfold mTry at p
  cases e : body ρ h with
  | none => rw [e] at p; exact p
  | some r =>
    rw [e] at p
    cases r with
    | nx ρ1 h1 => exact p
    | rt w h1 => exact p
    | bk ρ1 h1 => exact p
    | ct ρ1 h1 => exact p
    | ex k fs ρ1 h1 =>
      intro μ1 σ1 H1 cls d g1 s1 rx
      simp only at p
      cases et : tab k with
      | none => rw [et] at p; exact False.elim p
      | some b =>
        rw [et] at p
        obtain ⟨ecl, rx2⟩ := id rx
        refine ⟨b, by rw [ecl]; exact t k b et, fun hb a na => ?_, fun hb => ?_⟩
        · subst hb
          simp only at p
          have hn : RCell G (nu μ1 h1.length a) (h1.length + 1) (upd H1 a (ExV cls d a)) a (.exc k fs) := by
            refine ⟨cls, d, upd_same, ecl, ?_⟩
            rcases rx2 with q | ⟨dd, gs, e1, e2, q⟩
            · exact .inl q
            · exact .inr ⟨dd, gs, e1, by rw [upd_ne (ne_of_none e2 na)]; exact e2, RFs.mono (fun i hi => nu_old hi) (Nat.le_succ _) (TS0.fresh na) _ _ q⟩
          have g2 := Gr.new (o := ExV cls d a) (c := .exc k fs) s1.rel na hn
          have s2 := (s1.on g2).set (w := .ref h1.length) (v := .ref a) i (by simp only [RU]; exact ⟨by simp, by rw [nu_new]⟩)
          refine ⟨_, _, _, s2, ?_⟩
          have g12 := g1.trans g2
          cases e3 : suite (ρ1.set i (some (.ref h1.length))) (h1 ++ [.exc k fs]) with
          | none => rw [e3] at p; exact False.elim p
          | some r3 =>
            rw [e3] at p
            cases r3 with
            | nx ρ3 h3 => exact fun μ4 σ4 H4 g4 s4 => p μ4 _ H4 (g12.trans g4) (s4.unset i)
            | bk ρ3 h3 => exact fun μ4 σ4 H4 g4 s4 => p μ4 _ H4 (g12.trans g4) (s4.unset i)
            | ct ρ3 h3 => exact fun μ4 σ4 H4 g4 s4 => p μ4 _ H4 (g12.trans g4) (s4.unset i)
            | rt w h3 => exact fun μ4 H4 v g4 r4 => p μ4 H4 v (g12.trans g4) r4
            | ex k3 fs3 ρ3 h3 => exact False.elim p
        · subst hb
          exact p μ1 σ1 H1 cls d g1 s1 rx

/-! ### raise C(..): C an own error -/
/-- the fields by the arguments (the last stored first); new objects come behind -/
abbrev MX := List U → Hm → Option (List (Str × U) × Hm)
def mRaise (c : Nat) (mk : MX) (es : MA) : MS := fun ρ h => bndS ρ (es ρ h) fun ws h1 => match mk ws h1 with
  | some (fs, h2) => some (.ex c fs ρ h2)
  | none => none
/-- the cells of exceptions that stood before -/
def ExcOff (μ : Nat → Addr) (h : Hm) (a : Addr) : Prop := ∀ (i : Nat) c fs, h[i]? = some (.exc c fs) → μ i ≠ a
/-- the promise of such an __init__ -/
def spX (G : Gm) (c n : Nat) (mk : MX) : Sp := fun vs H Q E => ∃ a xs μ h ws fs h2, vs = .ref a :: xs ∧ xs.length = n ∧ H a = some (exo a (G.ca c) none) ∧ HRel G μ h H ∧ ExcOff μ h a ∧ RUs G.K μ h.length H ws xs ∧ mk ws h = some (fs, h2) ∧
  ∀ μ' H' d gs, Gr G μ h H μ' h2 H' → H' a = some (exo a (G.ca c) none) → ExcOff μ' h2 a → H' d = none → d ≠ a → (∀ b, H b ≠ none → H' b ≠ none) → RFs G.K μ' h2.length H' fs gs → Q .non (upd (upd H' d (exd d gs)) a (exo a (G.ca c) (some d)))
theorem exo_nt {e C : Addr} {d : Option Addr} : Wr (exo e C d) = false := rfl
theorem w_raise {c n : Nat} {mk : MX} {es : MA} (al : AL es n) (hn : n ≤ 1000) : ∀ D σ H, tS G Wx (mRaise c mk es) D σ H → (fun (_ : Ends) σ H => tMkO (G.ca c) (spX G c n mk) [] (tA G Wx es) σ H fun cls d H' => Wx cls d σ H') D σ H := fun D σ H ⟨μ, ρ, h, s, p⟩ =>
  ⟨μ, ρ, h, s, (PostS.bnd s p).withEq.mono fun μ1 h1 H1 ws g ⟨q, eq⟩ vs rs => by
    refine ⟨by rw [RUs.length rs, al _ _ _ _ eq]; exact hn, fun a na => ?_⟩
    cases em : mk ws h1 with
    | none => rw [em] at q; exact False.elim q
    | some fh =>
      obtain ⟨fs, h2⟩ := fh
      rw [em] at q
      simp only at q
      have r1 : HRel G μ1 h1 (upd H1 a (exo a (G.ca c) none)) := g.rel.fresh na
      have off : ExcOff μ1 h1 a := fun i k fs e z => by
        obtain ⟨cls, d, ea, _⟩ := g.rel.cell i _ e
        rw [z, na] at ea
        cases ea
      rw [List.append_nil]
      refine ⟨a, vs, μ1, h1, ws, fs, h2, rfl, (RUs.length rs).trans (al _ _ _ _ eq), upd_same, r1, off, rs.same (TS0.fresh na), em, fun μ' H' d gs g' ha off' nd da kk rf => ?_⟩
      have hd1 : H1 d = none := by
        cases z : H1 d with
        | none => rfl
        | some o => exact absurd nd (kk d (by rw [upd_ne da, z]; simp))
      refine ⟨rfl, d, gs, upd_same, by rw [upd_ne da, upd_same], hd1, ?_⟩
      -- the heap behind it
      have e3 : upd (del (upd (upd H' d (exd d gs)) a (exo a (G.ca c) (some d))) a) d (.xd gs) = upd (del H' a) d (.xd gs) := by
        funext b
        by_cases hb : b = d
        · subst hb; rw [upd_same, upd_same]
        · rw [upd_ne hb, upd_ne hb]
          by_cases hb2 : b = a
          · subst hb2; rw [del_same, del_same]
          · rw [del_ne hb2, del_ne hb2, upd_ne hb2, upd_ne hb]
      rw [e3]
      have kp : ∀ b u, b ≠ a → H' b = some u → upd (del H' a) d (.xd gs) b = some u := fun b u hb z => by
        rw [upd_ne (ne_of_none z nd), del_ne hb]
        exact z
      have nex : ∀ b u, H' b = some u → (∀ φ, u ≠ .ext φ) → b ≠ a := fun b u z y q => by
        rw [q, ha] at z
        cases z
        exact y _ rfl
      have ts : TS0 G.K H' (upd (del H' a) d (.xd gs)) := fun b xs st => by
        rcases st with (st | ⟨o, st⟩) | st
        · exact .inl (.inl (kp b _ (nex b _ st fun φ => by simp) st))
        · exact .inl (.inr ⟨o, kp b _ (nex b _ st fun φ => by simp) st⟩)
        · exact .inr st
      have rel3 : HRel G μ' h2 (upd (del H' a) d (.xd gs)) := by
        refine ⟨fun i e z => ?_, g'.rel.inj⟩
        have rc := g'.rel.cell i e z
        cases e with
        | lst us => obtain ⟨xs, q1, q2⟩ := rc; exact ⟨xs, kp _ _ (nex _ _ q1 fun φ => by simp) q1, q2.same ts⟩
        | ins k us => obtain ⟨dx, xs, q1, q2⟩ := rc; exact ⟨dx, xs, kp _ _ (nex _ _ q1 fun φ => by simp) q1, RFs.mono (fun _ _ => rfl) (Nat.le_refl _) ts _ _ q2⟩
        | frz us =>
          obtain ⟨xs, q1, q2⟩ := rc
          refine ⟨xs, ?_, q2.same ts⟩
          rcases q1 with ⟨o, q1⟩ | q1
          · exact .inl ⟨o, kp _ _ (nex _ _ q1 fun φ => by simp) q1⟩
          · exact .inr q1
        | exc k us =>
          obtain ⟨cls, dd, q1, q2, q3⟩ := rc
          refine ⟨cls, dd, kp _ _ (off' i k us z) q1, q2, ?_⟩
          rcases q3 with q3 | ⟨d1, ys, y1, y2, y3⟩
          · exact .inl q3
          · exact .inr ⟨d1, ys, y1, kp _ _ (nex _ _ y2 fun φ => by simp) y2, RFs.mono (fun _ _ => rfl) (Nat.le_refl _) ts _ _ y3⟩
      have ts1 : TS0 G.K H1 (upd (del H' a) d (.xd gs)) := (TS0.fresh (o := exo a (G.ca c) none) na).trans (g'.tup.trans ts)
      have gg : Gr G μ1 h1 H1 μ' h2 (upd (del H' a) d (.xd gs)) := ⟨g'.len, g'.mu, ts1, rel3⟩
      exact q μ' σ _ _ _ gg ((s.on g).on gg) ⟨rfl, .inr ⟨d, gs, rfl, upd_same, RFs.mono (fun _ _ => rfl) (Nat.le_refl _) ts _ _ rf⟩⟩⟩
end
end ML

set_option maxHeartbeats 4000000
namespace ML
open PySem L2
/-! ### __init__ of the own errors: super().__init__(text); self.f = p -/
section
variable {X : Cx} {x : Str} {pos : Pos} {i : Nat}
theorem pvS (hN : X.N[i]? = some x) (hv : X.env.scope.names.lookup x = some .local) (hd : (x == ("__debug__" : Str)) = false) (hcd : (x == ("__classdict__" : Str)) = false) : PE X (.Name x pos) (tVar i) := pe_var hN (.inl hv) hd hcd
end
def mk1 (f : Str) : MX := fun ws h => match ws with
  | [w] => some ([(f, w)], h)
  | _ => none
def mk2 (f1 f2 : Str) : MX := fun ws h => match ws with
  | [w, u] => some ([(f2, u), (f1, w)], h)
  | _ => none
/-- the first argument is written into the message -/
def mk2s (f1 f2 : Str) : MX := fun ws h => match ws with
  | [.str s, u] => if s.length ≤ LIM then some ([(f2, u), (f1, .str s)], h) else none
  | _ => none
/-- the second argument is written into the message -/
def mk2t (f1 f2 : Str) : MX := fun ws h => match ws with
  | [w, .str s] => if s.length ≤ LIM then some ([(f2, .str s), (f1, w)], h) else none
  | _ => none
theorem rf1 {K : PySem.W.Frag} {μ : Nat → Addr} {n : Nat} {H : Hp} {f : Str} {w : U} {v : V} (r : RU K μ n H w v) : RFs K μ n H [(f, w)] [(f, v)] := by
  simp only [RFs]
  exact ⟨v, [], rfl, r, rfl⟩
theorem rf2 {K : PySem.W.Frag} {μ : Nat → Addr} {n : Nat} {H : Hp} {f g : Str} {w u : U} {v y : V} (r : RU K μ n H w v) (q : RU K μ n H u y) : RFs K μ n H [(f, w), (g, u)] [(f, v), (g, y)] := by
  simp only [RFs]
  exact ⟨v, _, rfl, r, y, [], rfl, q, rfl⟩
theorem heap2 {H : Hp} {a d C : Addr} {o1 o2 : HO} (hd : d ≠ a) : upd (upd (upd H d o1) a (exo a C (some d))) d o2 = upd (upd H d o2) a (exo a C (some d)) := by
  funext b
  by_cases hb : b = d
  · subst hb
    rw [upd_same, upd_ne hd, upd_same]
  · rw [upd_ne hb]
    by_cases hb2 : b = a
    · subst hb2; rw [upd_same, upd_same]
    · rw [upd_ne hb2, upd_ne hb2, upd_ne hb, upd_ne hb]
theorem HRel.freshx {G : Gm} {μ : Nat → Addr} {h : Hm} {H : Hp} (r : HRel G μ h H) : Gr G μ h H μ h H := Gr.refl r

section
variable {G : Gm} {CX : CXT} {P : Program} {w : World} {mg : Str → Option Value} {base : Heap} {k : Nat} {f cc cda : Addr} {c : Nat} {name qual : Str} {params : Arguments} {e : Expr} {p0 p1 p2 p3 p4 q1 q2 q3 q4 q5 q6 q7 q8 : Pos} {scope : Scope} {dV kV doc pm ct oc : Value} {an od : Option Addr}
    {osl : Array (Option Value)} {ps : List Str}
/-- the message: a text -/
def Msg (X : Cx) (ps : List Str) (e : Expr) (ok : List U → Prop) (G : Gm) : Prop := ∀ μ h H ws vs, HRel G μ h H → RUs G.K μ h.length H ws vs → ok ws → ∀ a : V, ∃ te, PE X e te ∧ ∀ Q : VK, (∀ m, Q (.str m) H) → te (L2.start ps (a :: vs)) H Q

variable {pn : Str} {fn : Str}
theorem init_one (lk : G.K.lookup f = some ⟨oc, od, .func (PySem.W.ksFn name qual params [.Expr (.Call (.Attribute (.Call (.Name "super" p0) [] [] p1) "__init__" p2) [e] [] p3) p4, .Assign [.Attribute (.Name "self" q1) fn q2] (.Name pn q3) q4] scope dV kV doc pm an (.ref cda) ct cc), osl⟩)
    (T : SupTxt G.K mg (G.ca c) f cc cda qual) (S : SupScope ["self", pn] ["self", pn] scope) (hfile : ((P.main.file : Str) == ("/claim/cut.py" : Str)) = true) (htop : (P.main.scope.names.lookup ("super" : Str)).isSome = false)
    (har : ∃ ar : Arg, (params.posonlyargs ++ params.args).head? = some ar ∧ ([("self" : Str), pn]).head? = some ar.arg)
    (hswap : ∀ env : Env, swapsWith (.Call (.Attribute (.Call (.Name "super" p0) [] [] p1) "__init__" p2) [e] [] p3) none p4.line env = pure false)
    (hmeth : ∀ env : Env, eval (.Call (.Attribute (.Call (.Name "super" p0) [] [] p1) "__init__" p2) [e] [] p3) env = (do
      let ov ← attributeBase (.Call (.Name "super" p0) [] [] p1) "__init__" env (eval (.Call (.Name "super" p0) [] [] p1) env)
      standAt p2.atName
      let (f, first) ← holding [ov] (getMethod ov "__init__" (pure false))
      callWith p3 f first (backTo p3 (starEach [e] env)) []))
    (hstar : ∀ env : Env, starEach [e] env = (false, eval e env) :: starEach [] env)
    (hpn : (pn == ("__debug__" : Str)) = false ∧ (pn == ("__classdict__" : Str)) = false) (hfn : PySem.W.findIn G.K (.ref (G.ca c)) fn = some none) {ok : List U → Prop} {mk : MX} (hmk : ∀ ws h r, mk ws h = some r → ok ws ∧ mk1 fn ws h = some r)
    (msg : ∀ A outer s H E, Msg (cxS CX P w G.K mg base ["self", pn] qual scope f (.ref cda) cc A outer s H E) ["self", pn] e ok G) :
    FnOk P w G.K mg base CX (k + 1) f (PySem.W.ksFn name qual params [.Expr (.Call (.Attribute (.Call (.Name "super" p0) [] [] p1) "__init__" p2) [e] [] p3) p4, .Assign [.Attribute (.Name "self" q1) fn q2] (.Name pn q3) q4] scope dV kV doc pm an (.ref cda) ct cc) ["self", pn] (spX G c 1 mk) := by
  refine fnS_of lk T S hfile htop har (fun vs H Q E z => ?_) hswap hmeth hstar fun A outer s H vs Q E hr hsp => ?_
  · obtain ⟨a, xs, μ, h, ws, fs, h2, rfl, hl, _⟩ := z
    simp [hl]
  · obtain ⟨a, xs, μ, h, ws, fs, h2, rfl, hl, ha, rel, off, rs, em, q⟩ := hsp
    obtain ⟨hok, em⟩ := hmk _ _ _ em
    obtain ⟨te, hpe, hte⟩ := msg A outer s H E μ h H ws xs rel rs hok (.ref a)
    unfold mk1 at em
    split at em
    · rename_i w0
      cases em
      obtain ⟨v0, rfl, rv⟩ := rus1 rs
      refine ⟨a, te, _, rfl, ha, hpe, pss_one (ps_ost (pvS (i := 0) rfl (S.par _ (by simp)) (by decide) (by decide)) (pvS (i := 1) rfl (S.par _ (by simp)) hpn.1 hpn.2) (by rfl)), hte _ fun m => ⟨ha, ?_⟩⟩
      refine ⟨v0, rfl, .ref a, rfl, a, G.ca c, rfl, T.ox, hfn, .inl ⟨ha, fun dx nd da => ?_⟩⟩
      exact q μ H dx [(fn, v0)] (Gr.refl rel) ha off nd da (fun b z => z) (rf1 rv)
    · cases em
variable {pn2 fn2 : Str}
theorem init_two (lk : G.K.lookup f = some ⟨oc, od, .func (PySem.W.ksFn name qual params [.Expr (.Call (.Attribute (.Call (.Name "super" p0) [] [] p1) "__init__" p2) [e] [] p3) p4, .Assign [.Attribute (.Name "self" q1) fn q2] (.Name pn q3) q4, .Assign [.Attribute (.Name "self" q5) fn2 q6] (.Name pn2 q7) q8] scope dV kV doc pm an (.ref cda) ct cc), osl⟩)
    (T : SupTxt G.K mg (G.ca c) f cc cda qual) (S : SupScope ["self", pn, pn2] ["self", pn, pn2] scope) (hfile : ((P.main.file : Str) == ("/claim/cut.py" : Str)) = true) (htop : (P.main.scope.names.lookup ("super" : Str)).isSome = false)
    (har : ∃ ar : Arg, (params.posonlyargs ++ params.args).head? = some ar ∧ ([("self" : Str), pn, pn2]).head? = some ar.arg)
    (hswap : ∀ env : Env, swapsWith (.Call (.Attribute (.Call (.Name "super" p0) [] [] p1) "__init__" p2) [e] [] p3) none p4.line env = pure false)
    (hmeth : ∀ env : Env, eval (.Call (.Attribute (.Call (.Name "super" p0) [] [] p1) "__init__" p2) [e] [] p3) env = (do
      let ov ← attributeBase (.Call (.Name "super" p0) [] [] p1) "__init__" env (eval (.Call (.Name "super" p0) [] [] p1) env)
      standAt p2.atName
      let (f, first) ← holding [ov] (getMethod ov "__init__" (pure false))
      callWith p3 f first (backTo p3 (starEach [e] env)) []))
    (hstar : ∀ env : Env, starEach [e] env = (false, eval e env) :: starEach [] env)
    (hpn : (pn == ("__debug__" : Str)) = false ∧ (pn == ("__classdict__" : Str)) = false) (hpn2 : (pn2 == ("__debug__" : Str)) = false ∧ (pn2 == ("__classdict__" : Str)) = false)
    (hfn : PySem.W.findIn G.K (.ref (G.ca c)) fn = some none) (hfn2 : PySem.W.findIn G.K (.ref (G.ca c)) fn2 = some none) {ok : List U → Prop} {mk : MX} (hmk : ∀ ws h r, mk ws h = some r → ok ws ∧ mk2 fn fn2 ws h = some r)
    (msg : ∀ A outer s H E, Msg (cxS CX P w G.K mg base ["self", pn, pn2] qual scope f (.ref cda) cc A outer s H E) ["self", pn, pn2] e ok G) :
    FnOk P w G.K mg base CX (k + 1) f (PySem.W.ksFn name qual params [.Expr (.Call (.Attribute (.Call (.Name "super" p0) [] [] p1) "__init__" p2) [e] [] p3) p4, .Assign [.Attribute (.Name "self" q1) fn q2] (.Name pn q3) q4, .Assign [.Attribute (.Name "self" q5) fn2 q6] (.Name pn2 q7) q8] scope dV kV doc pm an (.ref cda) ct cc) ["self", pn, pn2] (spX G c 2 mk) := by
  refine fnS_of lk T S hfile htop har (fun vs H Q E z => ?_) hswap hmeth hstar fun A outer s H vs Q E hr hsp => ?_
  · obtain ⟨a, xs, μ, h, ws, fs, h2, rfl, hl, _⟩ := z
    simp [hl]
  · obtain ⟨a, xs, μ, h, ws, fs, h2, rfl, hl, ha, rel, off, rs, em, q⟩ := hsp
    obtain ⟨hok, em⟩ := hmk _ _ _ em
    obtain ⟨te, hpe, hte⟩ := msg A outer s H E μ h H ws xs rel rs hok (.ref a)
    unfold mk2 at em
    split at em
    · rename_i w0 w1
      cases em
      obtain ⟨v0, v1, rfl, rv, rv1⟩ := rus2 rs
      refine ⟨a, te, _, rfl, ha, hpe, pss_cons (ps_ost (pvS (i := 0) rfl (S.par _ (by simp)) (by decide) (by decide)) (pvS (i := 1) rfl (S.par _ (by simp)) hpn.1 hpn.2) (by rfl))
        (pss_one (ps_ost (pvS (i := 0) rfl (S.par _ (by simp)) (by decide) (by decide)) (pvS (i := 2) rfl (S.par _ (by simp)) hpn2.1 hpn2.2) (by rfl))), hte _ fun m => ⟨ha, ?_⟩⟩
      refine ⟨v0, rfl, .ref a, rfl, a, G.ca c, rfl, T.ox, hfn, .inl ⟨ha, fun dx nd da => ?_⟩⟩
      refine ⟨v1, rfl, .ref a, rfl, a, G.ca c, rfl, T.ox, hfn2, .inr ⟨dx, [(fn, v0)], upd_same, by rw [upd_ne da, upd_same], by simp, ?_⟩⟩
      show Q .non (upd (upd (upd H dx (exd dx [(fn, v0)])) a (exo a (G.ca c) (some dx))) dx (exd dx [(fn2, v1), (fn, v0)]))
      rw [heap2 da]
      exact q μ H dx [(fn2, v1), (fn, v0)] (Gr.refl rel) ha off nd da (fun b z => z) (rf2 rv1 rv)
    · cases em
/-- a written message -/
theorem msg_const {X : Cx} {m : Str} {j : Nat} {p : Pos} : Msg X ps (.Constant (.str m) j p) (fun _ => True) G := fun μ h H ws vs _ _ _ a => ⟨_, pe_str, fun Q q => q m⟩
/-- f'text{p}', p the i-th parameter -/
theorem msg_f {X : Cx} {m : Str} {j i : Nat} {p p' p'' p3 : Pos} {x : Str} (hN : X.N[i + 1]? = some x) (hv : X.env.scope.names.lookup x = some .local) (hd : (x == ("__debug__" : Str)) = false) (hcd : (x == ("__classdict__" : Str)) = false) (hm : m.length ≤ 1000) :
    Msg X ps (.JoinedStr [.Constant (.str m) j p, .FormattedValue (.Name x p') (-1) none p''] p3) (fun ws => ∃ s, ws[i]? = some (.str s) ∧ s.length ≤ LIM) G := fun μ h H ws vs rel rs ok a => by
  obtain ⟨s, es, hs⟩ := ok
  obtain ⟨v, ev, rv⟩ := RUs.get rs es
  simp only [RU] at rv
  subst rv
  refine ⟨_, pe_joined (.cons pe_str (.cons (pe_fmt (pvS hN hv hd hcd)) .nil)), fun Q q => ?_⟩
  have hl : i < vs.length := (List.getElem?_eq_some_iff.mp ev).1
  refine ⟨m, rfl, by rw [Str.length_append]; show 0 + m.length ≤ sizeLine; exact Nat.le_trans (by omega) (show 1000 ≤ sizeLine by decide), .str s, ?_, .inl ⟨s, rfl, lim_le hs, s, rfl, ?_, q _⟩⟩
  · unfold L2.start
    rw [List.map_cons, List.cons_append, List.getElem?_cons_succ, List.getElem?_append_left (by simpa using hl), List.getElem?_map, ev]
    rfl
  · rw [Str.length_append, Str.length_append]
    show 0 + m.length + s.length ≤ sizeLine
    have : s.length ≤ 1000000 := hs
    exact Nat.le_trans (by omega) (show 1001000 ≤ sizeLine by decide)
end
end ML

set_option maxHeartbeats 4000000
namespace ML
open PySem L2
section
variable {G : Gm} {Wx : WX} {μ μ' : Nat → Addr} {h h' : Hm} {H H' : Hp} {ρ : Ev} {σ : L2.St}
abbrev W0 : WX := fun _ _ _ _ => False
/-- what raises has no value -/
def noEx {α : Type} : Option (Rz α) → Option (Rz α)
  | some (.ok a h) => some (.ok a h)
  | _ => none
theorem Post.noEx {α : Type} {P : (Nat → Addr) → Hm → Hp → α → Prop} {E E' : XK} {x : Option (Rz α)} (p : Post G P E μ h H (noEx x)) : Post G P E' μ h H x := by
  cases x with
  | none => exact p
  | some r =>
    cases r with
    | ok a h1 => exact p
    | ex c fs h1 => exact False.elim p
def wipeE (ρ : Ev) : List Nat → Ev
  | [] => ρ
  | v :: vs => (wipeE ρ vs).set v none
theorem StOk.wipe (s : StOk G μ ρ h σ H) : ∀ vs : List Nat, StOk G μ (wipeE ρ vs) h (L2.wipe σ vs) H
  | [] => s
  | v :: vs => (StOk.wipe s vs).unset v
theorem set_comm {α : Type} (l : List α) (i j : Nat) (a b : α) (hij : i ≠ j) : (l.set i a).set j b = (l.set j b).set i a := by
  rw [List.set_comm _ _ hij]
theorem wipe_set {σ : L2.St} {i : Nat} {x : V} : ∀ {vs : List Nat}, i ∈ vs → L2.wipe (σ.set i (some x)) vs = L2.wipe σ vs := by
  intro vs
  induction vs generalizing σ with
  | nil => intro h; cases h
  | cons v vs ih =>
    intro hm
    unfold L2.wipe
    by_cases hv : i ∈ vs
    · rw [ih hv]
    · have e : i = v := by
        rcases List.mem_cons.mp hm with e | e
        · exact e
        · exact absurd e hv
      subst e
      have : ∀ (ws : List Nat), i ∉ ws → L2.wipe (σ.set i (some x)) ws = (L2.wipe σ ws).set i (some x) := by
        intro ws
        induction ws with
        | nil => intro _; rfl
        | cons u us ih2 =>
          intro hu
          simp only [List.mem_cons, not_or] at hu
          unfold L2.wipe
          rw [ih2 hu.2, List.set_comm _ _ hu.1]
      rw [this vs hv, List.set_set]
theorem wipe_wipe {σ : L2.St} (vs : List Nat) : L2.wipe (L2.wipe σ vs) vs = L2.wipe σ vs := by
  have key : ∀ (ws : List Nat) (τ : L2.St), (∀ v ∈ ws, v < τ.length → τ[v]? = some none) → L2.wipe τ ws = τ := by
    intro ws
    induction ws with
    | nil => intro τ _; rfl
    | cons u us ih =>
      intro τ h
      unfold L2.wipe
      rw [ih τ fun v hv => h v (List.mem_cons_of_mem _ hv)]
      by_cases hu : u < τ.length
      · have := h u List.mem_cons_self hu
        apply List.ext_getElem?
        intro j
        by_cases hj : u = j
        · subst hj; rw [List.getElem?_set_self hu, this]
        · rw [List.getElem?_set_ne hj]
      · rw [List.set_eq_of_length_le (by omega)]
  have none_at : ∀ (ws : List Nat) (τ : L2.St) v, v ∈ ws → v < (L2.wipe τ ws).length → (L2.wipe τ ws)[v]? = some none := by
    intro ws
    induction ws with
    | nil => intro τ v h; cases h
    | cons u us ih =>
      intro τ v hv hl
      unfold L2.wipe at hl ⊢
      rw [List.length_set] at hl
      by_cases hj : u = v
      · subst hj; rw [List.getElem?_set_self hl]
      · rw [List.getElem?_set_ne hj]
        rcases List.mem_cons.mp hv with e | e
        · exact absurd e.symm hj
        · exact ih τ v e hl
  exact key vs _ fun v hv hl => none_at vs σ v hv hl
/-- a target of plain names -/
inductive NT where
  | one (i : Nat)
  | tup (is : List Nat)
def setAll : List Nat → List U → Ev → Option Ev
  | [], [], ρ => some ρ
  | i :: is, w :: ws, ρ => setAll is ws (ρ.set i (some w))
  | _, _, _ => none
def NT.set : NT → U → Ev → Option Ev
  | .one i, w, ρ => some (ρ.set i (some w))
  | .tup is, .tup ws, ρ => setAll is ws ρ
  | _, _, _ => none
def gNm : List Nat → TGs
  | [] => gNil
  | i :: is => gCons (gName i) (gNm is)
def NT.tg (K : PySem.W.Frag) : NT → TG
  | .one i => gName i
  | .tup is => gTup K is.length (gNm is)
def NT.vs : NT → List Nat
  | .one i => [i]
  | .tup is => is
theorem setAll_ok : ∀ (is : List Nat) {ws : List U} {xs : List V} {ρ ρ1 : Ev} {τ : L2.St} {vs : List Nat} {F : L2.St → Hp → Prop}, setAll is ws ρ = some ρ1 → RUs G.K μ h.length H ws xs → StOk G μ ρ h τ H → (∀ i ∈ is, i ∈ vs) →
    (∀ τ1, StOk G μ ρ1 h τ1 H → L2.wipe τ1 vs = L2.wipe τ vs → F τ1 H) → gNm is xs τ H F
  | [], ws, xs, ρ, ρ1, τ, vs, F, e, r, s, hv, k => by
    cases ws with
    | nil =>
      cases e
      simp only [RUs] at r
      subst r
      exact ⟨rfl, k τ s rfl⟩
    | cons _ _ => cases e
  | i :: is, ws, xs, ρ, ρ1, τ, vs, F, e, r, s, hv, k => by
    cases ws with
    | nil => cases e
    | cons w ws =>
      simp only [RUs] at r
      obtain ⟨y, ys, rfl, r1, rs⟩ := r
      refine ⟨y, ys, rfl, ?_⟩
      show gNm is ys (τ.set i (some y)) H F
      refine setAll_ok is e rs (s.set i r1) (fun j hj => hv j (List.mem_cons_of_mem _ hj)) fun τ1 s1 e1 => k τ1 s1 (by rw [e1, wipe_set (hv i List.mem_cons_self)])
theorem NT.ok {t : NT} {w : U} {x : V} {ρ ρ1 : Ev} {τ : L2.St} {vs : List Nat} {F : L2.St → Hp → Prop} (e : t.set w ρ = some ρ1) (r : RU G.K μ h.length H w x) (s : StOk G μ ρ h τ H) (hv : ∀ i ∈ t.vs, i ∈ vs)
    (k : ∀ τ1, StOk G μ ρ1 h τ1 H → L2.wipe τ1 vs = L2.wipe τ vs → F τ1 H) : t.tg G.K x τ H F := by
  cases t with
  | one i =>
    cases e
    exact k _ (s.set i r) (wipe_set (hv i (by simp [NT.vs])))
  | tup is =>
    cases w <;> first | (cases e; done) | skip
    rename_i ws
    simp only [RU] at r
    obtain ⟨a, xs, rfl, st, rs⟩ := r
    have hl : xs.length = is.length := by
      have : ∀ (is : List Nat) (ws : List U) (ρ : Ev) ρ1, setAll is ws ρ = some ρ1 → ws.length = is.length := by
        intro is
        induction is with
        | nil => intro ws ρ ρ1 e; cases ws <;> first | rfl | cases e
        | cons i is ih => intro ws ρ ρ1 e; cases ws with
          | nil => cases e
          | cons w ws => simp [ih ws _ _ e]
      rw [RUs.length rs]
      exact this is ws ρ ρ1 e
    exact ⟨a, xs, rfl, st, hl, setAll_ok is e rs s hv k⟩

open Classical in
noncomputable def lcGo (chk : Hm → Prop) (t : NT) (tt : MT) (te : ME) (ρ : Ev) (D : Nat) : List U → Hm → Option (Rz U)
  | [], h => if chk h then some (.ok (.ref D) h) else none
  | w :: ws, h => if chk h then match t.set w ρ with
    | none => none
    | some ρ1 => bnd (noEx (tt ρ1 h)) fun b h2 => if b = true then bnd (noEx (te ρ1 h2)) fun y h3 => match h3[D]? with
        | some (.lst acc) => if acc.length < LIM then lcGo chk t tt te ρ D ws (h3.set D (.lst (acc ++ [y]))) else none
        | _ => none
      else lcGo chk t tt te ρ D ws h2
    else none
noncomputable def mLc (it : MI) (t : NT) (tt : MT) (te : ME) (vs : List Nat) : ME := fun ρ h => bnd (it ρ h) fun a h1 => lcGo a.2 t tt te (wipeE ρ vs) h1.length a.1 (h1 ++ [.lst []])
theorem w_lc {it : MI} {t : NT} {tt : MT} {te : ME} {vs : List Nat} (hv : ∀ i ∈ t.vs, i ∈ vs) : ∀ σ H Q, tE G Wx (mLc it t tt te vs) σ H Q → tLc (tI G Wx it) (t.tg G.K) (tT G W0 tt) (tE G W0 te) vs σ H Q := fun σ H Q ⟨μ, ρ, h, s, p⟩ =>
  ⟨μ, ρ, h, s, (Post.bnd p).mono fun μ1 h1 H1 a g1 q J gv D nD => by
    have gD := Gr.new (o := .lst []) (c := .lst []) g1.rel nD ⟨[], upd_same, RUs.nil⟩
    have sW := ((s.on g1).wipe vs)
    have hlD : h1.length < (h1 ++ [Cell.lst []]).length := by simp
    refine ⟨fun i m H => m = a.1.length - i ∧ i ≤ a.1.length ∧ ∃ μ2 h2, Gr G (nu μ1 h1.length D) (h1 ++ [.lst []]) (upd H1 D (.lst [])) μ2 h2 H ∧ Post G (PV G Q) (fun cls d H' => Wx cls d σ H') μ2 h2 H (lcGo a.2 t tt te (wipeE ρ vs) h1.length (a.1.drop i) h2),
      ⟨a.1.length, by simp, Nat.zero_le _, _, _, Gr.refl gD.rel, by rw [List.drop_zero]; exact q.on gD⟩, ?_⟩
    rintro i m H2 ⟨rfl, hi, μ2, h2, g2, p2⟩
    have g12 := gD.trans g2
    have em : μ2 h1.length = D := by rw [g2.mu _ hlD, nu_new]
    by_cases hlt : i < a.1.length
    · have hd : a.1.drop i = a.1[i] :: a.1.drop (i + 1) := List.drop_eq_getElem_cons hlt
      rw [hd] at p2
      unfold lcGo at p2
      by_cases hc : a.2 h2
      · rw [if_pos hc] at p2
        obtain ⟨_, gi⟩ := gv i μ2 h2 H2 g12 hc
        obtain ⟨go, yl⟩ := gi a.1[i] (by simp [hlt])
        cases e1 : t.set a.1[i] (wipeE ρ vs) with
        | none => rw [e1] at p2; exact False.elim p2
        | some ρ1 =>
          rw [e1] at p2
          simp only at p2
          refine .inr ⟨go, fun H' => ∃ μ2 h2, Gr G (nu μ1 h1.length D) (h1 ++ [.lst []]) (upd H1 D (.lst [])) μ2 h2 H' ∧ Post G (PV G Q) (fun cls d H' => Wx cls d σ H') μ2 h2 H' (lcGo a.2 t tt te (wipeE ρ vs) h1.length (a.1.drop (i + 1)) h2), fun H' z => ⟨a.1.length - (i + 1), by omega, rfl, by omega, z⟩, fun x H' y => ?_⟩
          obtain ⟨g3, r3⟩ := yl x H' y
          have s3 : StOk G μ2 (wipeE ρ vs) h2 (L2.wipe σ vs) H' := (sW.on g12).on g3
          refine NT.ok e1 r3 s3 hv fun τ1 s1 ew => ⟨by rw [ew, wipe_wipe], ?_⟩
          have p3 := (Post.bnd (p2.on g3)).noEx (E' := fun cls d H' => W0 cls d τ1 H')
          refine ⟨μ2, ρ1, h2, s1, p3.mono fun μ4 h4 H4 b g4 q4 => ?_⟩
          cases b with
          | false =>
            rw [if_neg Bool.false_ne_true] at q4 ⊢
            exact ⟨μ4, h4, (g2.trans g3).trans g4, q4⟩
          | true =>
            rw [if_pos rfl] at q4 ⊢
            refine ⟨μ4, ρ1, h4, s1.on g4, ((Post.bnd q4).noEx).mono fun μ5 h5 H5 y g5 q5 v rv => ?_⟩
            have g25 := ((g2.trans g3).trans g4).trans g5
            have em5 : μ5 h1.length = D := by rw [g25.mu _ hlD, nu_new]
            split at q5
            · rename_i acc ec
              split at q5
              · rename_i hl
                obtain ⟨xs, sx, rx⟩ := g25.rel.cell _ _ ec
                rw [em5] at sx
                refine ⟨xs, sx, by rw [RUs.length rx]; exact Nat.lt_of_lt_of_le hl (lim_le (Nat.le_refl _)), ?_⟩
                have ts : TS0 G.K H5 (upd H5 D (.lst (xs ++ [v]))) := TS0.write sx rfl
                have gw := Gr.write (o := .lst (xs ++ [v])) (d := .lst (acc ++ [y])) g25.rel ec rfl rfl ⟨_, upd_same, (rx.append (RUs.cons rv RUs.nil)).same (by rw [em5]; exact ts)⟩
                rw [em5] at gw
                exact ⟨μ5, _, g25.trans gw, q5.on gw⟩
              · exact False.elim q5
            · exact False.elim q5
      · rw [if_neg hc] at p2
        exact False.elim p2
    · have e : i = a.1.length := by omega
      subst e
      rw [List.drop_length] at p2
      unfold lcGo at p2
      by_cases hc : a.2 h2
      · rw [if_pos hc] at p2
        refine .inl ⟨(gv _ μ2 h2 H2 g12 hc).1 (Nat.le_refl _), ?_⟩
        refine Post.ok g2.rel p2 _ ?_
        simp only [RU]
        exact ⟨Nat.lt_of_lt_of_le hlD g2.len, by rw [em]⟩
      · rw [if_neg hc] at p2
        exact False.elim p2⟩
/-- y = [..] -/
theorem w_setLc {it : MI} {t : NT} {tt : MT} {te : ME} {vs : List Nat} {i : Nat} (hv : ∀ i ∈ t.vs, i ∈ vs) : ∀ D σ H, tS G Wx (mSet i (mLc it t tt te vs)) D σ H → tAsg (tLc (tI G Wx it) (t.tg G.K) (tT G W0 tt) (tE G W0 te) vs) (gName i) D σ H := fun D σ H z =>
  w_lc hv σ H _ (w_set D σ H z)
def mYes : MT := fun _ h => some (.ok true h)
theorem w_yes : ∀ σ H Q, tT G Wx mYes σ H Q → tYes σ H Q := fun σ H Q ⟨μ, ρ, h, s, p⟩ => Post.ok s.rel p
theorem _root_.L2.PTs.weak {X : Cx} {e : List Expr} {t t' : TT} (h : PTs X e t) (w : ∀ σ H Q, t' σ H Q → t σ H Q) : PTs X e t' := by
  obtain ⟨h⟩ := h
  exact ⟨fun pins s σ H Q I q => h pins s σ H Q I (w σ H Q q)⟩

/-! ### the signs of a text; enumerate; zip -/
def iS (e : ME) : MI := fun ρ h => bnd (e ρ h) fun w h1 => match w with
  | .str x => some (.ok (sItems x, fun _ => True) h1)
  | _ => none
theorem gives_str {x : Str} : Gives G (Its x) (sItems x) (fun _ => True) μ h H := fun j μ2 h2 H2 gr ck => by
  refine ⟨fun hj => by
    show x.cps.size ≤ j
    simpa [sItems] using hj, fun w hw => ?_⟩
  unfold sItems at hw
  rw [List.getElem?_map] at hw
  cases e : x.cps.toList[j]? with
  | none => rw [e] at hw; cases hw
  | some c =>
    rw [e] at hw
    cases hw
    have hj : j < x.cps.size := by
      have := (List.getElem?_eq_some_iff.mp e).1
      simpa using this
    refine ⟨hj, fun v H' y => ?_⟩
    obtain ⟨rfl, c', ec, rfl⟩ := y
    rw [← Array.getElem?_toList, e] at ec
    cases ec
    exact ⟨Gr.refl gr.rel, rfl⟩
theorem w_iS {e : ME} : ∀ σ H R, tI G Wx (iS e) σ H R → iStr (tE G Wx e) σ H R := fun σ H R ⟨μ, ρ, h, s, p⟩ =>
  ⟨μ, ρ, h, s, (Post.bnd p).mono fun μ1 h1 H1 w g q v r => by
    cases w with
    | str x =>
      simp only [RU] at r
      exact ⟨x, r, q μ1 H1 (Gr.refl g.rel) _ gives_str⟩
    | _ => exact False.elim q⟩
def eItems : Nat → List U → List U
  | _, [] => []
  | k, w :: ws => .tup [.int k, w] :: eItems (k + 1) ws
theorem eItems_get : ∀ {ws : List U} {k j : Nat}, (eItems k ws)[j]? = (ws[j]?).map fun w => .tup [.int ((k + j : Nat) : Int), w]
  | [], k, j => by simp [eItems]
  | w :: ws, k, 0 => by simp [eItems]
  | w :: ws, k, j + 1 => by
    simp only [eItems, List.getElem?_cons_succ]
    rw [eItems_get]
    congr 1
    funext w
    congr 3
    omega
theorem eItems_len : ∀ {ws : List U} {k : Nat}, (eItems k ws).length = ws.length
  | [], _ => rfl
  | w :: ws, k => by simp [eItems, eItems_len]
/-- enumerate(list) -/
def iEn (e : ME) : MI := fun ρ h => bnd (e ρ h) fun w h1 => match w with
  | .ref i => match h1[i]? with
    | some (.lst ws) => some (.ok (eItems 0 ws, fun h => h[i]? = some (.lst ws)) h1)
    | some (.frz ws) => some (.ok (eItems 0 ws, fun h => h[i]? = some (.frz ws)) h1)
    | _ => none
  | _ => none
end
end ML

set_option maxHeartbeats 4000000
/-! the rules as they are printed: the layer's rule, then its reading by a computation -/
namespace ML
open PySem L2
def visB (sc : Scope) (x : Str) : Bool := match sc.names.lookup x with
  | some .local => true
  | some .cell => true
  | some .free => true
  | _ => false
theorem visB_ok {sc : Scope} {x : Str} (h : visB sc x = true) : Vis sc x := by
  unfold visB at h
  split at h
  · rename_i e; exact .inl e
  · rename_i e; exact .inr (.inl e)
  · rename_i e; exact .inr (.inr e)
  · cases h
def locB (sc : Scope) (x : Str) : Bool := match sc.names.lookup x with
  | some .local => true
  | some .cell => true
  | _ => false
theorem locB_ok {sc : Scope} {x : Str} (h : locB sc x = true) : Loc sc x := by
  unfold locB at h
  split at h
  · rename_i e; exact .inl e
  · rename_i e; exact .inr e
  · cases h
section
variable {X : Cx} {G : Gm} {Wx : WX} {e a b c o : Expr} {es : List Expr} {st : Stmt} {rest sts : List Stmt} {x : Str} {pos p p' apos : Pos} {ma mb mc mo : ME} {mt mu : MT} {mas : MA} {ms mr : MS}
/-! names, constants -/
theorem dVar (i : Nat) (hN : X.N[i]? = some x) (hv : visB X.env.scope x = true) (hd : (x == ("__debug__" : Str)) = false) (hc : (x == ("__classdict__" : Str)) = false) : PE X (.Name x pos) (tE G Wx (mVar i)) := (pe_var hN (visB_ok hv) hd hc).weak w_var
theorem dInt {i : Int} {j : Nat} : PE X (.Constant (.int i) j pos) (tE G Wx (mC (.int i))) := pe_int.weak w_int
theorem dBl {i : Bool} {j : Nat} : PE X (.Constant (.bool i) j pos) (tE G Wx (mC (.bl i))) := pe_bl.weak w_bl
theorem dNon {j : Nat} : PE X (.Constant .none j pos) (tE G Wx (mC .non)) := pe_non.weak w_non
theorem dStr {i : Str} {j : Nat} : PE X (.Constant (.str i) j pos) (tE G Wx (mC (.str i))) := pe_str.weak w_str
/-- a module's constant -/
structure GlS (mg : Str → Option Value) (x : Str) (s : Str) : Prop where
  at_ : ∃ t, mg x = some (.str s t)
structure GlI (mg : Str → Option Value) (x : Str) (s : Int) : Prop where
  at_ : ∃ t, mg x = some (.int s t)
theorem dGlS {s : Str} (g : GlS X.mg x s) (hg : X.env.kindOf x = some .globalImplicit) (hd : (x == ("__debug__" : Str)) = false) : PE X (.Name x pos) (tE G Wx (mC (.str s))) := by
  obtain ⟨t, e⟩ := g.at_
  exact (pe_glob (v := .str s) hg e ⟨t, rfl⟩ hd).weak w_str
theorem dGlI {s : Int} (g : GlI X.mg x s) (hg : X.env.kindOf x = some .globalImplicit) (hd : (x == ("__debug__" : Str)) = false) : PE X (.Name x pos) (tE G Wx (mC (.int s))) := by
  obtain ⟨t, e⟩ := g.at_
  exact (pe_glob (v := .int s) hg e ⟨t, rfl⟩ hd).weak w_int
/-! operators -/
def oAdd : O2 := fun x y h => match (match oAddI x y h with | some z => some z | none => oAddS x y h) with
  | some z => some z
  | none => match oAddL x y h with | some z => some z | none => oAddT2 x y h
theorem dAdd (hG : X.K = G.K) (ha : PE X a (tE G Wx ma)) (hb : PE X b (tE G Wx mb)) : PE X (.BinOp a .Add b pos) (tE G Wx (mOp oAdd ma mb)) := by
  have r := (op_add (X := X)).or op_add_str
  have r2 := (op_cat (X := X)).or op_catA
  rw [hG] at r2
  exact (pe_op (r.or r2) ha hb).weak (w_op ((oAddI_ok.or oAddS_ok).or (oAddL_ok.or oAddT2_ok)))
theorem dSub (ha : PE X a (tE G Wx ma)) (hb : PE X b (tE G Wx mb)) : PE X (.BinOp a .Sub b pos) (tE G Wx (mOp oSub ma mb)) := (pe_op op_sub ha hb).weak (w_op oSub_ok)
def oMulA : O2 := fun x y h => match oMul x y h with | some z => some z | none => oRep x y h
theorem dMul (ha : PE X a (tE G Wx ma)) (hb : PE X b (tE G Wx mb)) : PE X (.BinOp a .Mult b pos) (tE G Wx (mOp oMulA ma mb)) := (pe_op ((op_mul (X := X)).or op_rep) ha hb).weak (w_op (oMul_ok.or oRep_ok))
theorem dDiv (ha : PE X a (tE G Wx ma)) (hb : PE X b (tE G Wx mb)) : PE X (.BinOp a .FloorDiv b pos) (tE G Wx (mOp oDiv ma mb)) := (pe_op op_fdivN ha hb).weak (w_op oDiv_ok)
theorem dMod (ha : PE X a (tE G Wx ma)) (hb : PE X b (tE G Wx mb)) : PE X (.BinOp a .Mod b pos) (tE G Wx (mOp oMod ma mb)) := (pe_op op_modN ha hb).weak (w_op oMod_ok)
theorem dPow (ha : PE X a (tE G Wx ma)) (hb : PE X b (tE G Wx mb)) : PE X (.BinOp a .Pow b pos) (tE G Wx (mOp oPow ma mb)) := (pe_op op_pow ha hb).weak (w_op oPow_ok)
theorem dNeg (ha : PE X a (tE G Wx ma)) : PE X (.UnaryOp .USub a pos) (tE G Wx (mNeg ma)) := (pe_un un_neg ha).weak w_neg
/-! comparisons: as values, as tests -/
theorem dLt (ha : PE X a (tE G Wx ma)) (hb : PE X b (tE G Wx mb)) : PE X (.Compare a [.Lt] [b] pos) (tE G Wx (mOp oLt ma mb)) := (pe_cmpR op_lt ha hb (nomark _)).weak (w_op oLt_ok)
theorem dLe (ha : PE X a (tE G Wx ma)) (hb : PE X b (tE G Wx mb)) : PE X (.Compare a [.LtE] [b] pos) (tE G Wx (mOp oLe ma mb)) := (pe_cmpR op_le ha hb (nomark _)).weak (w_op oLe_ok)
theorem dGt (ha : PE X a (tE G Wx ma)) (hb : PE X b (tE G Wx mb)) : PE X (.Compare a [.Gt] [b] pos) (tE G Wx (mOp oGt ma mb)) := (pe_cmpR op_gt ha hb (nomark _)).weak (w_op oGt_ok)
theorem dGe (ha : PE X a (tE G Wx ma)) (hb : PE X b (tE G Wx mb)) : PE X (.Compare a [.GtE] [b] pos) (tE G Wx (mOp oGe ma mb)) := (pe_cmpR op_ge ha hb (nomark _)).weak (w_op oGe_ok)
def oEq (n : Nat) : O2 := fun x y h => match oEqS false x y h with | some z => some z | none => oEqD false n x y h
def oNe (n : Nat) : O2 := fun x y h => match oEqS true x y h with | some z => some z | none => oEqD true n x y h
theorem dEq (n : Nat) (hG : X.K = G.K) (hu : X.A.units + 64 < cLine) (ha : PE X a (tE G Wx ma)) (hb : PE X b (tE G Wx mb)) : PE X (.Compare a [.Eq] [b] pos) (tE G Wx (mOp (oEq n) ma mb)) := by
  have r := (op_eq (X := X)).or (op_eqD hu)
  rw [hG] at r
  exact (pe_cmpR r ha hb (nomark _)).weak (w_op (oEqS_ok.or oEqD_ok))
theorem dNe (n : Nat) (hG : X.K = G.K) (hu : X.A.units + 64 < cLine) (ha : PE X a (tE G Wx ma)) (hb : PE X b (tE G Wx mb)) : PE X (.Compare a [.NotEq] [b] pos) (tE G Wx (mOp (oNe n) ma mb)) := by
  have r := (op_ne (X := X)).or (op_neD hu)
  rw [hG] at r
  exact (pe_cmpR r ha hb (nomark _)).weak (w_op (oNeS_ok.or oNeD_ok))
theorem dIsN {j : Nat} (ha : PE X a (tE G Wx ma)) : PE X (.Compare a [.Is] [.Constant .none j p] pos) (tE G Wx (mIsN false ma)) := (pe_cmp (pc_isN ha) rfl).weak w_isN
theorem dNotN {j : Nat} (ha : PE X a (tE G Wx ma)) : PE X (.Compare a [.IsNot] [.Constant .none j p] pos) (tE G Wx (mIsN true ma)) := (pe_cmp (pc_notN ha) rfl).weak w_notN
/-- x in text (one sign), x in a list or tuple -/
def oInA (neg : Bool) : O2 := fun x y h => match oInC neg x y h with | some z => some z | none => oIn neg x y h
theorem oNotInC_ok : OpC G (oInC true) (fun x y H Q => ∃ (c : Nat) (z : Str), x = .str ⟨#[c]⟩ ∧ y = .str z ∧ Q (.bl (!decide (c ∈ z.cps.toList))) H) := fun E μ h H wx wy x y Q rel rx ry p => by
  cases wx with
  | str a =>
    cases wy with
    | str z =>
      simp only [RU] at rx ry
      subst rx ry
      unfold oInC at p
      simp only at p
      split at p
      · rename_i c e
        refine ⟨c, z, by rw [str_one e], rfl, Post.ok rel p _ (by simp [RU])⟩
      · exact False.elim p
    | _ => exact False.elim p
  | _ => exact False.elim p
theorem dIn (hG : X.K = G.K) (ha : PE X a (tE G Wx ma)) (hb : PE X b (tE G Wx mb)) (hm : behindInMarks .In b = false) : PE X (.Compare a [.In] [b] pos) (tE G Wx (mOp (oInA false) ma mb)) := by
  have r := (op_in_sign (X := X)).or op_in_seq
  rw [hG] at r
  exact (pe_cmpR r ha hb hm).weak (w_op (oInC_ok.or oIn_ok))
theorem dNotIn (hG : X.K = G.K) (ha : PE X a (tE G Wx ma)) (hb : PE X b (tE G Wx mb)) (hm : behindInMarks .NotIn b = false) : PE X (.Compare a [.NotIn] [b] pos) (tE G Wx (mOp (oInA true) ma mb)) := by
  have r := (op_notIn_sign (X := X)).or op_notIn_seq
  rw [hG] at r
  exact (pe_cmpR r ha hb hm).weak (w_op (oNotInC_ok.or oIn_ok))
/-- a <= b <= c -/
theorem dLeLe (ha : PE X a (tE G Wx ma)) (hb : PE X b (tE G Wx mb)) (hc : PE X c (tE G Wx mc)) (hm : lastMarks [.LtE, .LtE] [b, c] = false) : PE X (.Compare a [.LtE, .LtE] [b, c] pos) (tE G Wx (mChain oLe oLe ma mb mc)) := (pe_chain op_le op_le ha hb hc hm).weak (w_chain oLe_ok oLe_ok)
theorem qLeLe (ha : PE X a (tE G Wx ma)) (hb : PE X b (tE G Wx mb)) (hc : PE X c (tE G Wx mc)) (hm : lastMarks [.LtE, .LtE] [b, c] = false) : PT X (.Compare a [.LtE, .LtE] [b, c] pos) (tT G Wx (mB (mChain oLe oLe ma mb mc))) := (pt_chain op_le op_le ha hb hc hm).weak (w_testchain oLe_ok oLe_ok)
/-- any comparison as a test -/
theorem qLt (ha : PE X a (tE G Wx ma)) (hb : PE X b (tE G Wx mb)) : PT X (.Compare a [.Lt] [b] pos) (tT G Wx (mB (mOp oLt ma mb))) := (pt_cmpR op_lt ha hb (nomark _)).weak (w_testop oLt_ok)
theorem qLe (ha : PE X a (tE G Wx ma)) (hb : PE X b (tE G Wx mb)) : PT X (.Compare a [.LtE] [b] pos) (tT G Wx (mB (mOp oLe ma mb))) := (pt_cmpR op_le ha hb (nomark _)).weak (w_testop oLe_ok)
theorem qGt (ha : PE X a (tE G Wx ma)) (hb : PE X b (tE G Wx mb)) : PT X (.Compare a [.Gt] [b] pos) (tT G Wx (mB (mOp oGt ma mb))) := (pt_cmpR op_gt ha hb (nomark _)).weak (w_testop oGt_ok)
theorem qGe (ha : PE X a (tE G Wx ma)) (hb : PE X b (tE G Wx mb)) : PT X (.Compare a [.GtE] [b] pos) (tT G Wx (mB (mOp oGe ma mb))) := (pt_cmpR op_ge ha hb (nomark _)).weak (w_testop oGe_ok)
theorem qEq (n : Nat) (hG : X.K = G.K) (hu : X.A.units + 64 < cLine) (ha : PE X a (tE G Wx ma)) (hb : PE X b (tE G Wx mb)) : PT X (.Compare a [.Eq] [b] pos) (tT G Wx (mB (mOp (oEq n) ma mb))) := by
  have r := (op_eq (X := X)).or (op_eqD hu)
  rw [hG] at r
  exact (pt_cmpR r ha hb (nomark _)).weak (w_testop (oEqS_ok.or oEqD_ok))
theorem qNe (n : Nat) (hG : X.K = G.K) (hu : X.A.units + 64 < cLine) (ha : PE X a (tE G Wx ma)) (hb : PE X b (tE G Wx mb)) : PT X (.Compare a [.NotEq] [b] pos) (tT G Wx (mB (mOp (oNe n) ma mb))) := by
  have r := (op_ne (X := X)).or (op_neD hu)
  rw [hG] at r
  exact (pt_cmpR r ha hb (nomark _)).weak (w_testop (oNeS_ok.or oNeD_ok))
theorem qIsN {j : Nat} (ha : PE X a (tE G Wx ma)) : PT X (.Compare a [.Is] [.Constant .none j p] pos) (tT G Wx (mB (mIsN false ma))) := (pt_cmp (pc_isN ha) rfl).weak w_testN
theorem qNotN {j : Nat} (ha : PE X a (tE G Wx ma)) : PT X (.Compare a [.IsNot] [.Constant .none j p] pos) (tT G Wx (mB (mIsN true ma))) := (pt_cmp (pc_notN ha) rfl).weak w_testNN
theorem qIn (hG : X.K = G.K) (ha : PE X a (tE G Wx ma)) (hb : PE X b (tE G Wx mb)) (hm : behindInMarks .In b = false) : PT X (.Compare a [.In] [b] pos) (tT G Wx (mB (mOp (oInA false) ma mb))) := by
  have r := (op_in_sign (X := X)).or op_in_seq
  rw [hG] at r
  exact (pt_cmpR r ha hb hm).weak (w_testop (oInC_ok.or oIn_ok))
theorem qNotIn (hG : X.K = G.K) (ha : PE X a (tE G Wx ma)) (hb : PE X b (tE G Wx mb)) (hm : behindInMarks .NotIn b = false) : PT X (.Compare a [.NotIn] [b] pos) (tT G Wx (mB (mOp (oInA true) ma mb))) := by
  have r := (op_notIn_sign (X := X)).or op_notIn_seq
  rw [hG] at r
  exact (pt_cmpR r ha hb hm).weak (w_testop (oNotInC_ok.or oIn_ok))
/-- a value that is a truth value, as a test -/
theorem qVal (h : PE X e (tE G Wx ma)) (he : ∀ whole, isTrue e X.env whole = (do let v ← whole; standAt e.pos; holding [v] (truthy v))) : PT X e (tT G Wx (mB ma)) := (pt_val h he).weak w_B
theorem qNot (h : PT X a (tT G Wx mt)) : PT X (.UnaryOp .Not a pos) (tT G Wx (mTNot mt)) := (pt_not h).weak w_tnot
theorem qAnd1 (h : PT X a (tT G Wx mt)) : PW X (.BoolOp .And [a] pos) (tT G Wx mt) := pw_and1 h
theorem qOr1 (h : PT X a (tT G Wx mt)) : PW X (.BoolOp .Or [a] pos) (tT G Wx mt) := pw_or1 h
theorem qAnd (h : PT X a (tT G Wx mt)) (k : PW X (.BoolOp .And (b :: es) pos) (tT G Wx mu)) : PW X (.BoolOp .And (a :: b :: es) pos) (tT G Wx (mTAnd mt mu)) := (pw_and h k).weak w_tand
theorem qOr (h : PT X a (tT G Wx mt)) (k : PW X (.BoolOp .Or (b :: es) pos) (tT G Wx mu)) : PW X (.BoolOp .Or (a :: b :: es) pos) (tT G Wx (mTOr mt mu)) := (pw_or h k).weak w_tor
theorem dAnd1 {op : BoolOp} (h : PE X a (tE G Wx ma)) : PE X (.BoolOp op [a] pos) (tE G Wx ma) := pe_one h
theorem dAnd (h : PE X a (tE G Wx ma)) (k : PE X (.BoolOp .And (b :: es) pos) (tE G Wx mb)) : PE X (.BoolOp .And (a :: b :: es) pos) (tE G Wx (mAnd ma mb)) := (pe_and h k).weak w_and
theorem dOr (h : PE X a (tE G Wx ma)) (k : PE X (.BoolOp .Or (b :: es) pos) (tE G Wx mb)) : PE X (.BoolOp .Or (a :: b :: es) pos) (tE G Wx (mOr ma mb)) := (pe_or h k).weak w_or
theorem dNot (h : PE X a (tE G Wx ma)) : PE X (.UnaryOp .Not a pos) (tE G Wx (mNot ma)) := (pe_not h).weak w_not
theorem dIfE (h : PT X c (tT G Wx mt)) (ha : PE X a (tE G Wx ma)) (hb : PE X b (tE G Wx mb)) : PE X (.IfExp c a b pos) (tE G Wx (mIfE mt ma mb)) := (pe_ifExp h ha hb).weak w_ifE
/-! displays, items, slices -/
theorem dNil : PA X [] (tA G Wx mNil) := pa_nil.weak w_nil
theorem dCons (h : PE X e (tE G Wx ma)) (k : PA X es (tA G Wx mas)) (hs : starEach (e :: es) X.env = (false, eval e X.env) :: starEach es X.env) : PA X (e :: es) (tA G Wx (mCons ma mas)) := (pa_cons h k hs).weak w_cons
theorem dTup {x1} (h : PA X es (tA G Wx mas)) : PE X (.Tuple es x1 pos) (tE G Wx (mTup mas)) := (pe_tup h).weak w_tup
theorem dLst (h : PA X es (tA G Wx mas)) : PE X (.List es pos) (tE G Wx (mLst mas)) := (pe_lst h).weak w_lst
theorem dIx (hG : X.K = G.K) (ha : PE X a (tE G Wx ma)) (hb : PE X b (tE G Wx mb)) (hs : PlainIx b) : PE X (.Subscript a b pos) (tE G Wx (mOp oIx ma mb)) := by
  have r := ix_seq (X := X)
  rw [hG] at r
  exact (pe_ix r ha hb hs).weak (w_op oIx_ok)
def oSlS : OS := fun x lo hi h => match x with
  | .str z => if z.length ≤ LIM then some (.ok (.str (cutS z lo hi)) h) else none
  | _ => none
theorem oSlS_ok : SlC G oSlS rSlS := fun E μ h H wx x lo hi Q rel rx p => by
  unfold oSlS at p
  split at p
  · rename_i z
    simp only [RU] at rx
    subst rx
    split at p
    · rename_i hc
      exact ⟨z, rfl, lim_le hc, Post.ok rel p _ rfl⟩
    · exact False.elim p
  · exact False.elim p
theorem SlC.or {f g : OS} {r r' : V → Option Int → Option Int → Hp → VK → Prop} (c : SlC G f r) (d : SlC G g r') : SlC G (fun x lo hi h => match f x lo hi h with | some z => some z | none => g x lo hi h) (fun x lo hi H Q => r x lo hi H Q ∨ r' x lo hi H Q) := fun E μ h H wx x lo hi Q rel rx p => by
  cases e : f wx lo hi h with
  | none => simp only [e] at p; exact .inr (d E μ h H wx x lo hi Q rel rx p)
  | some z => simp only [e] at p; exact .inl (c E μ h H wx x lo hi Q rel rx (by rw [e]; exact p))
def oSl : OS := fun x lo hi h => match oSlS x lo hi h with
  | some z => some z
  | none => match oSlL x lo hi h with | some z => some z | none => oSlT x lo hi h
variable {lo hi : Option Expr} {ml mh : MO}
theorem dSl {p2 : Pos} (hG : X.K = G.K) (h : PE X e (tE G Wx ma)) (hl : PO X lo (tO G Wx ml)) (hh : PO X hi (tO G Wx mh)) : PE X (.Subscript e (.Slice lo hi none p2) pos) (tE G Wx (mSl oSl ma ml mh)) := by
  have r2 := (sl_list (X := X)).or sl_tupA
  rw [hG] at r2
  exact (pe_slice ((sl_str (X := X)).or r2) h hl hh).weak (w_sl (oSlS_ok.or (oSlL_ok.or oSlT_ok)))
theorem dNoP : PO X none (tO G Wx mNoPart) := po_none.weak w_noPart
theorem dPart (h : PE X e (tE G Wx ma)) : PO X (some e) (tO G Wx (mPart ma)) := (po_some h).weak w_part
/-! calls of built-ins -/
structure StarOk (X : Cx) (pos : Pos) (e : Expr) (es : List Expr) : Prop where
  s : starEach (e :: es) X.env = (false, eval e X.env) :: starEach es X.env
  p : (backTo pos (starEach es X.env)).any (·.1) = false
theorem dB {id : String} {f : MF} {r : List V → Hp → VK → Prop} (hc : CallR X (.builtin id) r) (cc : CallC G f r) (hm : X.mg x = none) (hg : X.env.kindOf x = some .globalImplicit) (hv : bootBuiltins x = some (.builtin id)) (ha : PA X (e :: es) (tA G Wx mas)) (hn : x ≠ "__name__") (hd : (x == ("__debug__" : Str)) = false) (so : StarOk X pos e es) :
    PE X (.Call (.Name x p) (e :: es) [] pos) (tE G Wx (mCB f mas)) := (pe_callB hc hg hm hv ha hn hd so.s so.p).weak (w_cb cc)
theorem dTy {T : String} {f : MF} {r : List V → Hp → VK → Prop} (hc : CallR X (.type T) r) (cc : CallC G f r) (hm : X.mg x = none) (hg : X.env.kindOf x = some .globalImplicit) (hv : bootBuiltins x = some (.type T)) (ha : PA X (e :: es) (tA G Wx mas)) (hn : x ≠ "__name__") (hd : (x == ("__debug__" : Str)) = false) (so : StarOk X pos e es) :
    PE X (.Call (.Name x p) (e :: es) [] pos) (tE G Wx (mCB f mas)) := (pe_callTy hc hg hm hv ha hn hd so.s so.p).weak (w_cb cc)
theorem cLen (hG : X.K = G.K) : CallR X (.builtin "len") (fun xs H Q => ∃ x n, xs = [x] ∧ LenV G.K x H n ∧ Q (.int n) H) := by
  have r := call_len (X := X)
  rw [hG] at r
  exact r
theorem cAll (hG : X.K = G.K) (hc : X.calm = true) : CallR X (.builtin "all") (fun vs H Q => ∃ (a : Addr) (bs : List Bool), vs = [V.ref a] ∧ SqL G.K H a (bs.map V.bl) ∧ Q (.bl (bs.all id)) H) := by
  have r := cr_all hc
  rw [hG] at r
  exact r
theorem cAny (hG : X.K = G.K) (hc : X.calm = true) : CallR X (.builtin "any") (fun vs H Q => ∃ (a : Addr) (bs : List Bool), vs = [V.ref a] ∧ SqL G.K H a (bs.map V.bl) ∧ Q (.bl (bs.any id)) H) := by
  have r := cr_any hc
  rw [hG] at r
  exact r
theorem cList (hG : X.K = G.K) : CallR X (.type "list") (fun xs H Q => ∃ p ys, xs = [.ref p] ∧ (SqL G.K H p ys ∨ SqT G.K H p ys) ∧ ∀ l, H l = none → Q (.ref l) (upd H l (.lst ys))) := by
  have r := call_list_of (X := X)
  rw [hG] at r
  exact r
theorem cTuple (hG : X.K = G.K) : CallR X (.type "tuple") (fun xs H Q => ∃ p ys, xs = [.ref p] ∧ ((SqL G.K H p ys ∧ ∀ l, H l = none → Q (.ref l) (upd H l (.tup ys))) ∨ (SqT G.K H p ys ∧ Q (.ref p) H))) := by
  have r := call_tuple_of (X := X)
  rw [hG] at r
  exact r
def fIntA : MF := fun ws h => match fInt ws h with | some z => some z | none => fIntS ws h
theorem CallC.or {f g : MF} {r r' : List V → Hp → VK → Prop} (c : CallC G f r) (d : CallC G g r') : CallC G (fun ws h => match f ws h with | some z => some z | none => g ws h) (fun xs H Q => r xs H Q ∨ r' xs H Q) := fun E μ h H ws vs Q rel rs p => by
  cases e : f ws h with
  | none => simp only [e] at p; exact .inr (d E μ h H ws vs Q rel rs p)
  | some z => simp only [e] at p; exact .inl (c E μ h H ws vs Q rel rs (by rw [e]; exact p))
/-- isinstance(e, C) -/
structure IsA (X : Cx) (G : Gm) (c : Expr) (tab : TyK → Option Bool) : Prop where
  at_ : ∃ cv u, IsiC G tab cv u ∧ PE X c (tC cv)
theorem dIsi {tab : TyK → Option Bool} (hG : X.K = G.K) (t : IsA X G c tab) (ha : PE X a (tE G Wx ma)) (hm : X.mg "isinstance" = none) (hg : X.env.kindOf "isinstance" = some .globalImplicit) (so : StarOk X pos a [c]) (so2 : starEach [c] X.env = (false, eval c X.env) :: starEach [] X.env) :
    PE X (.Call (.Name "isinstance" p) [a, c] [] pos) (tE G Wx (mIsi tab ma)) := by
  obtain ⟨cv, u, i, hc⟩ := t.at_
  have r := (call_isi (X := X)).or call_isV
  rw [hG] at r
  exact (pe_callB r hg hm PyProof.Rows.boot_isinstance (pa_cons ha (pa_cons hc pa_nil so2) so.s) (by decide) (by decide) so.s so.p).weak (w_isi i)
/-! methods of built-in types -/
theorem dAppend (ha : PE X o (tE G Wx mo)) (he : PE X e (tE G Wx ma)) (hG : X.K = G.K) (hs : starEach [e] X.env = (false, eval e X.env) :: starEach [] X.env)
    (hb : PE X (.Call (.Attribute o "append" apos) [e] [] pos) (tBM X.K "list" rAppend (tE G Wx mo) (tA G Wx (mCons ma mNil)))) : PE X (.Call (.Attribute o "append" apos) [e] [] pos) (tE G Wx (mBM kList fAppend mo (mCons ma mNil))) := by
  rw [hG] at hb
  exact hb.weak (w_bm kList_ok fAppend_ok)
def fFind : U → MF := fun x ws h => match x, ws with
  | .str a, [.str b] => some (.ok (.int (Txt.find a b)) h)
  | _, _ => none
theorem w_m1 {f : U → MF} {r : V → List V → Hp → VK → Prop} (c : MtC G "str" f r) : ∀ σ H Q, tE G Wx (mBM kStr f mo (mCons ma mNil)) σ H Q → tM1 r (tE G Wx mo) (tE G Wx ma) σ H Q := fun σ H Q ⟨μ, ρ, h, s, q⟩ =>
  ⟨μ, ρ, h, s, (Post.bnd q).mono fun μ1 h1 H1 wx g1 q1 x rx => by
    split at q1
    · rename_i hk
      cases wx <;> first | (cases hk; done) | skip
      rename_i z
      have rx' := rx
      simp only [RU] at rx'
      subst rx'
      refine ⟨⟨z, rfl⟩, μ1, ρ, h1, s.on g1, (Post.bnd (Post.bnd q1)).mono fun μ2 h2 H2 w g2 q2 y ry => ?_⟩
      exact c _ μ2 h2 H2 _ _ [w] [y] Q g2.rel (g2.ru rx) (RUs.cons ry RUs.nil) (Post.ok (E := fun cls d H' => Wx cls d σ H') g2.rel q2)
    · exact False.elim q1⟩
theorem fFind_ok : MtC G "str" fFind (fun x xs H Q => ∃ a b, x = .str a ∧ xs = [.str b] ∧ Q (.int (Txt.find a b)) H) := fun E μ h H wx x ws vs Q rel rx rs q => by
  unfold fFind at q
  split at q
  · rename_i a b
    simp only [RU] at rx
    subst rx
    obtain ⟨v, rfl, r⟩ := rus1 rs
    simp only [RU] at r
    subst r
    exact ⟨a, b, rfl, rfl, Post.ok rel q _ rfl⟩
  · exact False.elim q
structure BaseOk (X : Cx) (o : Expr) (m : Str) (apos pos : Pos) : Prop where
  b : attributeBase o m X.env (eval o X.env) = eval o X.env
  l : (apos.endLine == pos.line) = true
theorem dFind (ha : PE X o (tE G Wx mo)) (he : PE X e (tE G Wx ma)) (hs : starEach [e] X.env = [(false, eval e X.env)]) (bo : BaseOk X o "find" apos pos) : PE X (.Call (.Attribute o "find" apos) [e] [] pos) (tE G Wx (mBM kStr fFind mo (mCons ma mNil))) :=
  (pe_m1 F.slot_str_find F.type_str_find mt_find ha he hs bo.b bo.l).weak (w_m1 fFind_ok)
def strsOf : List U → Option (List Str)
  | [] => some []
  | .str b :: ws => match strsOf ws with
    | some bs => some (b :: bs)
    | none => none
  | _ :: _ => none
theorem strsOf_ok {K : PySem.W.Frag} {μ : Nat → Addr} {n : Nat} {H : Hp} : ∀ {ws : List U} {vs : List V} {bs : List Str}, strsOf ws = some bs → RUs K μ n H ws vs → vs = bs.map V.str
  | [], vs, bs, e, r => by simp only [RUs] at r; subst r; cases e; rfl
  | w :: ws, vs, bs, e, r => by
    cases w <;> first | (cases e; done) | skip
    rename_i b
    simp only [strsOf] at e
    simp only [RUs] at r
    obtain ⟨y, ys, rfl, r1, rs⟩ := r
    cases e1 : strsOf ws with
    | none => rw [e1] at e; cases e
    | some bs2 =>
      rw [e1] at e
      cases e
      simp only [RU] at r1
      rw [r1, strsOf_ok e1 rs]
      rfl
def fJoin : U → MF := fun x ws h => match x, (match ws with
    | [.ref i] => rd h i
    | [.tup us] => some us
    | _ => none) with
  | .str a, some us => match strsOf us with
    | some ys => if (ys.map (·.length)).sum + ys.length * a.length ≤ 1000000 then some (.ok (.str (Txt.join a ys)) h) else none
    | none => none
  | _, _ => none
theorem fJoin_ok : MtC G "str" fJoin (fun x xs H Q => ∃ a p, ∃ ys : List Str, x = .str a ∧ xs = [.ref p] ∧ (SqL G.K H p (ys.map V.str) ∨ SqT G.K H p (ys.map V.str)) ∧ (ys.map (·.length)).sum + ys.length * a.length ≤ 16777216 ∧ Q (.str (Txt.join a ys)) H) := fun E μ h H wx x ws vs Q rel rx rs q => by
  unfold fJoin at q
  split at q
  · rename_i a us eu
    split at q
    · rename_i ys ey
      split at q
      · rename_i hl
        simp only [RU] at rx
        subst rx
        split at eu
        · rename_i i
          obtain ⟨v, rfl, r⟩ := rus1 rs
          simp only [RU] at r
          obtain ⟨_, rfl⟩ := r
          obtain ⟨xs, sq, rr⟩ := rd_ok rel eu
          have := strsOf_ok ey rr
          subst this
          exact ⟨a, _, ys, rfl, rfl, .inl sq, by omega, Post.ok rel q _ rfl⟩
        · rename_i us'
          cases eu
          obtain ⟨v, rfl, r⟩ := rus1 rs
          simp only [RU] at r
          obtain ⟨b, xs, rfl, st, rr⟩ := r
          have := strsOf_ok ey rr
          subst this
          exact ⟨a, _, ys, rfl, rfl, .inr st, by omega, Post.ok rel q _ rfl⟩
        · cases eu
      · exact False.elim q
    · exact False.elim q
  · exact False.elim q
theorem dJoin (hG : X.K = G.K) (ha : PE X o (tE G Wx mo)) (he : PE X e (tE G Wx ma)) (hs : starEach [e] X.env = [(false, eval e X.env)]) (bo : BaseOk X o "join" apos pos) : PE X (.Call (.Attribute o "join" apos) [e] [] pos) (tE G Wx (mBM kStr fJoin mo (mCons ma mNil))) := by
  have r := mt_join (X := X)
  rw [hG] at r
  exact (pe_m1 F.slot_str_join F.type_str_join r ha he hs bo.b bo.l).weak (w_m1 fJoin_ok)
/-! attributes -/
theorem dAttr {f : Str} {ins exc : Nat → Bool} (hG : X.K = G.K) (t : AtX G f ins exc) (ha : PE X o (tE G Wx mo)) (hb : attributeBase o f X.env (eval o X.env) = eval o X.env) : PE X (.Attribute o f pos) (tE G Wx (mAttrX f ins exc mo)) := by
  have r := pe_fldX (pos := pos) ha hb
  rw [hG] at r
  exact r.weak (w_attrX t)
/-! calls of defs -/
structure Callee (P : Program) (w : World) (G : Gm) (mg : Str → Option Value) (base : Heap) (x : Str) (k : Nat) (ps : List Str) (m : MF) : Prop where
  ex : ∃ a fd, mg x = some (.ref a) ∧ PySem.W.keepIn G.K (.ref a) = true ∧ Binds G.K fd ps [] ∧ FnM P w G mg base k a fd ps m
theorem dCall {k j n : Nat} {ps : List Str} {m : MF} (hG : X.K = G.K) (cl : Callee X.prog X.w G X.mg X.base x k ps m) (hr : Room j X.A) (hk : k ≤ j) (tk : Takes X Wx) (hn : ps.length = n) (ha : PA X (e :: es) (tA G Wx mas)) (al : AL mas n) (hg : X.env.kindOf x = some .globalImplicit) (hd : (x == ("__debug__" : Str)) = false) (so : StarOk X pos e es) :
    PE X (.Call (.Name x p) (e :: es) [] pos) (tE G Wx (mCB m mas)) := by
  obtain ⟨a, fd, hm, kp, hb, F⟩ := cl.ex
  unfold FnM at F
  subst hn
  obtain ⟨K, ca⟩ := G
  subst hG
  exact (pe_callS F (hr.mono hk) hg hm kp hb (passAt tk) ha hd so.s so.p).weak (w_call al)
theorem dCall0 {k j : Nat} {m : MF} (hG : X.K = G.K) (cl : Callee X.prog X.w G X.mg X.base x k [] m) (hr : Room j X.A) (hk : k ≤ j) (tk : Takes X Wx) (hg : X.env.kindOf x = some .globalImplicit) (hd : (x == ("__debug__" : Str)) = false) :
    PE X (.Call (.Name x p) [] [] pos) (tE G Wx (mCB m mNil)) := by
  obtain ⟨a, fd, hm, kp, hb, F⟩ := cl.ex
  unfold FnM at F
  obtain ⟨K, ca⟩ := G
  subst hG
  exact (pe_callS0 F (hr.mono hk) hg hm kp hb (passAt tk) hd).weak w_call0
/-! statements -/
theorem dSkip : PSs X [] (tS G Wx mSkip) := pss_nil.weak w_skip
theorem dSeq (h : PS X st (tS G Wx ms)) (k : PSs X rest (tS G Wx mr)) : PSs X (st :: rest) (tS G Wx (mSeq ms mr)) := (pss_cons h k).weak w_seq
theorem dOne (h : PS X st (tS G Wx ms)) : PSs X [st] (tS G Wx ms) := pss_one h
theorem dPass : PS X (.Pass pos) (tS G Wx mSkip) := ps_pass.weak w_skip
theorem dRet (h : PE X e (tE G Wx ma)) : PS X (.Return (some e) pos) (tS G Wx (mRet ma)) := (ps_ret h).weak w_ret
theorem dRetN : PS X (.Return none pos) (tS G Wx mRetN) := ps_retN.weak w_retN
theorem dExpr (h : PE X e (tE G Wx ma)) (hs : swapsWith e none pos.line X.env = pure false) : PS X (.Expr e pos) (tS G Wx (mDrop ma)) := (ps_expr h hs).weak w_drop
theorem dSet {y : Str} {i : Nat} (h : PE X e (tE G Wx ma)) (hN : X.N.Nodup) (hi : X.N[i]? = some y) (hl : locB X.env.scope y = true) (hs : swapsWith e (some (.Name y p)) pos.line X.env = pure false) (hf : X.fn y = true ∨ X.env.scope.names.lookup y = some .local) : PS X (.Assign [.Name y p] e pos) (tS G Wx (mSet i ma)) :=
  (ps_set hN hi (locB_ok hl) h hs hf).weak w_set
theorem dIf {sa sb : List Stmt} {m1 m2 : MS} (h : PT X c (tT G Wx mt)) (ha : PSs X sa (tS G Wx m1)) (hb : PSs X sb (tS G Wx m2)) : PS X (.If c sa sb pos) (tS G Wx (mIf mt m1 m2)) := (ps_if h ha hb).weak w_if
theorem dBrk : PS X (.Break pos) (tS G Wx mBrk) := ps_break.weak w_brk
theorem dCont : PS X (.Continue pos) (tS G Wx mCont) := ps_continue.weak w_cont
theorem dFor {tg iter : Expr} {body : List Stmt} {mi : MI} {mg : MG} {mb : MS} (hp : PassesOwn (model X.prog X.w) X.A X.env X.xe) (hc : X.calm = true) (hi : PI X tg iter (tI G Wx mi)) (hg : PG X tg (tG G mg)) (hb : PSs X body (tS G Wx mb)) (hs : ∀ x, foldedSetIterable iter X.env x = pure x) : PS X (.For tg iter body [] pos) (tS G Wx (mFor mi mg mb)) :=
  (ps_for hp hc hi hg hb hs).weak w_for
theorem dWhile {body : List Stmt} {mb : MS} (hp : PassesOwn (model X.prog X.w) X.A X.env X.xe) (hc : PT X c (tT G Wx mt)) (hb : PSs X body (tS G Wx mb)) : PS X (.While c body [] pos) (tS G Wx (mWhile mt mb)) := (ps_while hp hc hb).weak w_while
theorem dSetIx {i : Expr} {mi : ME} {p1 : Pos} (he : PE X e (tE G Wx ma)) (ho : PE X o (tE G Wx mo)) (hi : PE X i (tE G Wx mi)) (hs : swapsWithSole [.Subscript o i p1] e pos.line X.env = pure false) (hw : swappedStores [.Subscript o i p1] e X.env = pure none) (ht : ∀ (v : Value), assign (o.Subscript i p1) X.env v = do
      let ov ← holding [v] (eval o X.env)
      let iv ← holding [v, ov] (eval i X.env)
      standAt p1
      holding [v, ov, iv] (setItem ov iv v)
      release [v, ov, iv] []) (h1 : List.map (fun x => x.snd) (assignEach [.Subscript o i p1] X.env) = [assign (.Subscript o i p1) X.env]) : PS X (.Assign [.Subscript o i p1] e pos) (tS G Wx (mSetIx ma mo mi)) :=
  (ps_asg he (pg_sub ho hi set_list ht) hs hw h1).weak w_setIx
theorem dAsg {tg : Expr} {g : MG} (he : PE X e (tE G Wx ma)) (hg : PG X tg (tG G g)) (hs : swapsWithSole [tg] e pos.line X.env = pure false) (hw : swappedStores [tg] e X.env = pure none) (h1 : List.map (fun x => x.snd) (assignEach [tg] X.env) = [assign tg X.env]) : PS X (.Assign [tg] e pos) (tS G Wx (mAsg g ma)) := (ps_asg he hg hs hw h1).weak w_asg
theorem gName {y : Str} {i : Nat} (hN : X.N.Nodup) (hi : X.N[i]? = some y) (hl : locB X.env.scope y = true) (hf : X.fn y = true ∨ X.env.scope.names.lookup y = some .local) : PG X (.Name y pos) (tG G (gN i)) := (pg_name hN hi (locB_ok hl) hf).weak w_gN
theorem gNil' : PGs X [] (tGs G gE) := pgs_nil.weak w_gE
/-! iterators -/
theorem iList' {tg : Expr} (hG : X.K = G.K) (h : PE X e (tE G Wx ma)) : PI X tg e (tI G Wx (iL ma)) := by
  have r := pi_list (tg := tg) h
  rw [hG] at r
  exact r.weak w_iL
theorem iTup' {tg : Expr} (hG : X.K = G.K) (h : PE X e (tE G Wx ma)) : PI X tg e (tI G Wx (iT ma)) := by
  have r := pi_tup (tg := tg) h
  rw [hG] at r
  exact r.weak w_iT
theorem iStr' {tg : Expr} (h : PE X e (tE G Wx ma)) : PI X tg e (tI G Wx (iS ma)) := (pi_str h).weak w_iS
theorem iRange1 {tg : Expr} (h : PE X e (tE G Wx ma)) (hm : X.mg "range" = none) (hg : X.env.kindOf "range" = some .globalImplicit) (hs1 : starEach [e] X.env = (false, eval e X.env) :: starEach [] X.env) (hs : starEach [e] X.env = [(false, eval e X.env)]) : PI X tg (.Call (.Name "range" p) [e] [] pos) (tI G Wx (iR1 ma)) :=
  (pi_range1 hg hm (pa_cons h pa_nil hs1) hs).weak w_iR1
theorem iRange2 {tg : Expr} (ha : PE X a (tE G Wx ma)) (hb : PE X b (tE G Wx mb)) (hm : X.mg "range" = none) (hg : X.env.kindOf "range" = some .globalImplicit) (hs1 : starEach [a, b] X.env = (false, eval a X.env) :: starEach [b] X.env) (hs2 : starEach [b] X.env = (false, eval b X.env) :: starEach [] X.env)
    (hs : starEach [a, b] X.env = [(false, eval a X.env), (false, eval b X.env)]) (hs3 : starEach [b] X.env = [(false, eval b X.env)]) : PI X tg (.Call (.Name "range" p) [a, b] [] pos) (tI G Wx (iR2 ma mb)) :=
  (pi_range2 hg hm (pa_cons ha (pa_cons hb pa_nil hs2) hs1) hs hs3).weak w_iR2
/-! raise, try -/
structure OwnErr (P : Program) (w : World) (G : Gm) (mg : Str → Option Value) (base : Heap) (x : Str) (k c n : Nat) (mk : MX) : Prop where
  ox : OexC G.K (G.ca c)
  gl : mg x = some (.ref (G.ca c))
  ex : ∃ fI fd ps, PySem.W.findIn G.K (.ref (G.ca c)) "__init__" = some (some (.ref fI)) ∧ PySem.W.typeIn G.K (.ref fI) = some (.type "function") ∧ Binds G.K fd ps [] ∧ FnOk P w G.K mg base CX0 k fI fd ps (spX G c n mk)
theorem passE {X : Cx} : Passes CX0 X (fun _ _ _ => False) := fun _ _ _ _ _ _ _ h => h.elim
theorem dRaise {k j c n : Nat} {mk : MX} (hG : X.K = G.K) (oe : OwnErr X.prog X.w G X.mg X.base x k c n mk) (hr : Room j X.A) (hk : k + 1 ≤ j) (tk : Takes X Wx) (hc : X.calm = true) (ha : PA X (e :: es) (tA G Wx mas)) (al : AL mas n) (hn : n ≤ 1000) (hg : X.env.kindOf x = some .globalImplicit) (hd : (x == ("__debug__" : Str)) = false) (so : StarOk X pos e es) :
    PS X (.Raise (some (.Call (.Name x p) (e :: es) [] pos)) none p') (tS G Wx (mRaise c mk mas)) := by
  obtain ⟨fI, fd, ps, h1, h2, hb, F⟩ := oe.ex
  have T := oe.ox
  have gl := oe.gl
  obtain ⟨K, ca⟩ := G
  subst hG
  exact (ps_raise hc tk (pmk_oex T h1 h2 F (hr.mono hk) hb .nil passE hg gl ha hd so.s so.p)).weak (w_raise al hn)
theorem dTry {n : Str} {cv : Value} {i : Nat} {body suite : List Stmt} {b₀ : Stmt} {np pos' : Pos} {tab : Nat → Option Bool} {mb ms : MS} (hG : X.K = G.K) (t : TakC G tab cv) (hs : X.stack = X.env :: X.outer) (hf : X.env.frame = some X.env.locals) (hex : X.ex = []) (hN : X.N.Nodup) (hi : X.N[i]? = some n) (hln : X.env.kindOf n = some .local) (hc : Names X x cv) (tk : Takes X Wx)
    (hb : ∀ (W : WX) (pn : List (Addr × Obj)) (xe : Value → Shared → Prop), Takes (X.tr pn xe) W → PassesOwn (model X.prog X.w) X.A X.env xe → PSs (X.tr pn xe) body (tS G W mb))
    (hsu : ∀ (a : Addr) (pn : List (Addr × Obj)), PSs (X.suite a pn) (b₀ :: suite) (tS G W0 ms)) :
    PS X (.Try body [.ExceptHandler (some (.Name x np)) (some n) (b₀ :: suite) pos'] [] [] pos) (tS G Wx (mTry tab i mb ms)) := by
  have r := ps_try_asT (pos := pos) (pos' := pos') (np := np) (Wout := Wx) (tb := fun W => tS G W mb) hs hf hex hN hi hln hc tk hb hsu
  rw [hG] at r
  exact r.weak (w_try t)
end
end ML

set_option maxHeartbeats 4000000
/-! comprehensions, isinstance, own errors as they are printed -/
namespace ML
open PySem L2
section
variable {X : Cx} {G : Gm} {Wx : WX} {e a b c o elt tg iter : Expr} {es ifs : List Expr} {x : Str} {pos p : Pos} {ma mb mc mo me : ME} {mt : MT} {mi : MI} {scope : Scope} {own : List (Str × Nat)}
theorem dLc (t : NT) (hG : X.K = G.K) (hc : X.calm = true) (hN : X.N.Nodup) (hi : PI X tg iter (tI G Wx mi)) (bk : BlkOk X.N X.env.scope scope own)
    (hg : ∀ (s : Shared) (H : Hp) (C : Addr) (cl : List (Str × Addr)) (fp : List Addr), PG (X.blk s H scope (compEnvC scope cl C X.env) fp) tg (t.tg G.K))
    (ht : ∀ (s : Shared) (H : Hp) (C : Addr) (cl : List (Str × Addr)) (fp : List Addr), PTs (X.blk s H scope (compEnvC scope cl C X.env) fp) ifs (tT G W0 mt))
    (he : ∀ (s : Shared) (H : Hp) (C : Addr) (cl : List (Str × Addr)) (fp : List Addr), PE (X.blk s H scope (compEnvC scope cl C X.env) fp) elt (tE G W0 me))
    (hv : ∀ i ∈ t.vs, i ∈ own.map (·.2)) (hs : ∀ x, foldedSetIterable iter X.env x = pure x) :
    PE X (.ListComp elt [⟨tg, iter, ifs, 0⟩] scope pos) (tE G Wx (mLc mi t mt me (own.map (·.2)))) :=
  (pe_lc hc hN hi bk hg ht he hs).weak (w_lc hv)
theorem dLcSet (t : NT) {i : Nat} {y : Str} {py spos : Pos} (hG : X.K = G.K) (hc : X.calm = true) (hN : X.N.Nodup) (hy : X.N[i]? = some y) (hyl : X.env.scope.names.lookup y = some .local)
    (hsw : swapsWith (.ListComp elt [⟨tg, iter, ifs, 0⟩] scope pos) (some (.Name y py)) spos.line X.env = pure true) (hi : PI X tg iter (tI G Wx mi)) (bk : BlkOk X.N X.env.scope scope own)
    (hg : ∀ (s : Shared) (H : Hp) (C : Addr) (cl : List (Str × Addr)) (fp : List Addr), PG (X.blk s H scope (compEnvC scope cl C X.env) fp) tg (t.tg G.K))
    (ht : ∀ (s : Shared) (H : Hp) (C : Addr) (cl : List (Str × Addr)) (fp : List Addr), PTs (X.blk s H scope (compEnvC scope cl C X.env) fp) ifs (tT G W0 mt))
    (he : ∀ (s : Shared) (H : Hp) (C : Addr) (cl : List (Str × Addr)) (fp : List Addr), PE (X.blk s H scope (compEnvC scope cl C X.env) fp) elt (tE G W0 me))
    (hv : ∀ i ∈ t.vs, i ∈ own.map (·.2)) (hs : ∀ x, foldedSetIterable iter X.env x = pure x) :
    PS X (.Assign [.Name y py] (.ListComp elt [⟨tg, iter, ifs, 0⟩] scope pos) spos) (tS G Wx (mSet i (mLc mi t mt me (own.map (·.2))))) :=
  (ps_setLc hc hN hy hyl hsw hi bk hg ht he hs).weak (w_setLc hv)
theorem dYes : PTs X [] (tT G W0 mYes) := pts_nil.weak w_yes
theorem dIf1 (h : PT X c (tT G W0 mt)) : PTs X [c] (tT G W0 mt) := pts_one h
theorem ntOne {y : Str} {i : Nat} (hN : X.N.Nodup) (hi : X.N[i]? = some y) (hl : locB X.env.scope y = true) (hf : X.fn y = true ∨ X.env.scope.names.lookup y = some .local) : PG X (.Name y pos) ((NT.one i).tg G.K) := pg_name hN hi (locB_ok hl) hf
/-- isinstance by a built-in class: only the plain kinds are answered, own instances and errors where they are told -/
def tabInt : TyK → Option Bool
  | .int => some true
  | .bl => some true
  | .non => some false
  | .str => some false
  | .lst => some false
  | .tup => some false
  | _ => none
def tabBool : TyK → Option Bool
  | .int => some false
  | .bl => some true
  | .non => some false
  | .str => some false
  | .lst => some false
  | .tup => some false
  | _ => none
def tabStr : TyK → Option Bool
  | .int => some false
  | .bl => some false
  | .non => some false
  | .str => some true
  | .lst => some false
  | .tup => some false
  | _ => none
def tabTup : TyK → Option Bool
  | .int => some false
  | .bl => some false
  | .non => some false
  | .str => some false
  | .lst => some false
  | .tup => some true
  | _ => none
theorem isiInt : IsiC G tabInt (.ty "int") (.type "int") := ⟨ClsV.ty _, fun k b h => by cases k <;> cases h <;> exact kit_ty (by decide +kernel), (fun c b h => nomatch h), (fun c b h => nomatch h)⟩
theorem isiBool : IsiC G tabBool (.ty "bool") (.type "bool") := ⟨ClsV.ty _, fun k b h => by cases k <;> cases h <;> exact kit_ty (by decide +kernel), (fun c b h => nomatch h), (fun c b h => nomatch h)⟩
theorem isiStr : IsiC G tabStr (.ty "str") (.type "str") := ⟨ClsV.ty _, fun k b h => by cases k <;> cases h <;> exact kit_ty (by decide +kernel), (fun c b h => nomatch h), (fun c b h => nomatch h)⟩
theorem isiTup : IsiC G tabTup (.ty "tuple") (.type "tuple") := ⟨ClsV.ty _, fun k b h => by cases k <;> cases h <;> exact kit_ty (by decide +kernel), (fun c b h => nomatch h), (fun c b h => nomatch h)⟩
theorem isaTy {n : String} {tab : TyK → Option Bool} (t : IsiC G tab (.ty n) (.type n)) (hg : X.env.kindOf x = some .globalImplicit) (hm : X.mg x = none) (hb : bootBuiltins x = some (.type n)) (hn : x ≠ "__name__") (hd : (x == ("__debug__" : Str)) = false) : IsA X G (.Name x pos) tab :=
  ⟨.ty n, .type n, t, pe_bltn (v := .ty n) hg hm hb (by rfl) hn hd⟩
/-- isinstance by an own class: the told answers -/
structure OwnK (G : Gm) (mg : Str → Option Value) (x : Str) (tab : TyK → Option Bool) : Prop where
  ex : ∃ C, mg x = some (.ref C) ∧ IsiC G tab (.ref C) (.ref C)
theorem isaOwn {tab : TyK → Option Bool} (o : OwnK G X.mg x tab) (hg : X.env.kindOf x = some .globalImplicit) (hd : (x == ("__debug__" : Str)) = false) : IsA X G (.Name x pos) tab := by
  obtain ⟨C, hm, i⟩ := o.ex
  exact ⟨.ref C, .ref C, i, pe_glob (v := .ref C) hg hm (by rfl) hd⟩
theorem cAbs : CallR X (.builtin "abs") (fun xs H Q => ∃ i, xs = [.int i] ∧ Q (.int (if i < 0 then -i else i)) H) := call_abs
theorem cInt : CallR X (.type "int") (fun xs H Q => ((∃ i, xs = [.int i] ∧ Q (.int i) H) ∨ ∃ k, xs = [.bl k] ∧ Q (.int (if k then 1 else 0)) H) ∨ ∃ a n, xs = [.str a] ∧ PySem.intText? a = some n ∧ a.length ≤ 640 ∧ Q (.int n) H) := (call_int1 (X := X)).or call_int_str
theorem fIntA_ok : CallC G fIntA (fun xs H Q => ((∃ i, xs = [.int i] ∧ Q (.int i) H) ∨ ∃ k, xs = [.bl k] ∧ Q (.int (if k then 1 else 0)) H) ∨ ∃ a n, xs = [.str a] ∧ PySem.intText? a = some n ∧ a.length ≤ 640 ∧ Q (.int n) H) := fInt_ok.or fIntS_ok
/-- whatever stands in a row: the kind shows itself -/
def iSeq (e : ME) : MI := fun ρ h => match e ρ h with
  | some (.ok (.str _) _) => iS e ρ h
  | some (.ok (.tup _) _) => iT e ρ h
  | _ => iL e ρ h
theorem iSeq' (hG : X.K = G.K) (h : PE X e (tE G Wx ma)) : PI X tg e (tI G Wx (iSeq ma)) := by
  have r1 : PI X tg e (tI G Wx (iS ma)) := iStr' h
  have r2 : PI X tg e (tI G Wx (iT ma)) := iTup' hG h
  have r3 : PI X tg e (tI G Wx (iL ma)) := iList' hG h
  refine ⟨fun pins s σ H R I ⟨μ, ρ, hm, st, p⟩ => ?_⟩
  unfold iSeq at p
  split at p
  · exact r1.run pins s σ H R I ⟨μ, ρ, hm, st, p⟩
  · exact r2.run pins s σ H R I ⟨μ, ρ, hm, st, p⟩
  · exact r3.run pins s σ H R I ⟨μ, ρ, hm, st, p⟩
theorem qAnd' (h : PT X a (tT G Wx mt)) {mu : MT} (k : PW X (.BoolOp .And (b :: es) pos) (tT G Wx mu)) : PT X (.BoolOp .And (a :: b :: es) pos) (tT G Wx (mTAnd mt mu)) := (qAnd h k).pt
theorem qOr' (h : PT X a (tT G Wx mt)) {mu : MT} (k : PW X (.BoolOp .Or (b :: es) pos) (tT G Wx mu)) : PT X (.BoolOp .Or (a :: b :: es) pos) (tT G Wx (mTOr mt mu)) := (qOr h k).pt
theorem units64 {k : Nat} {A : Around} (hr : Room k A) : A.units + 64 < cLine := by have := hr.un; omega
abbrev fIntA2 : MF := fun ws h => match fInt ws h with | some z => some z | none => fIntS ws h
end
end ML

set_option maxHeartbeats 4000000
/-! the computations, step by step -/
namespace ML
open PySem L2
section
variable {ρ : Ev} {h : Hm} {i j : Int} {a b : Str}
@[simp] theorem ev_oI0 {g : Int → Int → U} : oI0 g (.int i) (.int j) h = some (.ok (g i j) h) := rfl
@[simp] theorem ev_oI {C : Int → Int → Bool} {g : Int → Int → U} : oI C g (.int i) (.int j) h = if C i j = true then some (.ok (g i j) h) else none := rfl
@[simp] theorem ev_addI : oAdd (.int i) (.int j) h = some (.ok (.int (i + j)) h) := rfl
@[simp] theorem ev_addS : oAdd (.str a) (.str b) h = if a.length + b.length ≤ LIM then some (.ok (.str (a ++ b)) h) else none := by
  unfold oAdd oAddS
  by_cases hl : a.length + b.length ≤ LIM
  · simp [hl, oI0]
  · simp [hl, oI0, oAddL, oAddT2]
@[simp] theorem ev_mulA : oMulA (.int i) (.int j) h = if cMul i j = true then some (.ok (.int (i * j)) h) else none := by
  unfold oMulA
  by_cases hl : cMul i j = true
  · simp [hl]
  · simp [hl, oRep]
@[simp] theorem ev_eqI {n : Nat} : oEq n (.int i) (.int j) h = some (.ok (.bl (decide (i = j))) h) := by simp [oEq, oEqS, sEq]
@[simp] theorem ev_eqS {n : Nat} : oEq n (.str a) (.str b) h = some (.ok (.bl (decide (a = b))) h) := by simp [oEq, oEqS, sEq]
@[simp] theorem ev_neS {n : Nat} : oNe n (.str a) (.str b) h = some (.ok (.bl (!decide (a = b))) h) := by simp [oNe, oEqS, sEq]
@[simp] theorem ev_neI {n : Nat} : oNe n (.int i) (.int j) h = some (.ok (.bl (!decide (i = j))) h) := by simp [oNe, oEqS, sEq]
@[simp] theorem ev_int : fIntA2 [.int i] h = some (.ok (.int i) h) := rfl
@[simp] theorem ev_intB {k : Bool} : fIntA2 [.bl k] h = some (.ok (.int (if k then 1 else 0)) h) := rfl
@[simp] theorem ev_abs : fAbs [.int i] h = some (.ok (.int (if i < 0 then -i else i)) h) := rfl
@[simp] theorem ev_rdL {l : Nat} {ws : List U} (e : h[l]? = some (.lst ws)) : rd h l = some ws := by simp [rd, e]
theorem ev_ix {l : Nat} {ws : List U} {w : U} (e : rd h l = some ws) (e2 : atI ws i = some w) : oIx (.ref l) (.int i) h = some (.ok w h) := by simp [oIx, e, e2]
theorem ev_ixT {ws : List U} {w : U} (e2 : atI ws i = some w) : oIx (.tup ws) (.int i) h = some (.ok w h) := by simp [oIx, e2]
theorem ev_ixS {c : Nat} (e2 : atI a.cps.toList i = some c) (hl : a.length ≤ LIM) : oIx (.str a) (.int i) h = some (.ok (.str ⟨#[c]⟩) h) := by simp [oIx, e2, hl]
theorem ev_len {l : Nat} {ws : List U} (e : rd h l = some ws) : fLen [.ref l] h = some (.ok (.int ws.length) h) := by simp [fLen, e]
@[simp] theorem ev_lenS : fLen [.str a] h = if a.length ≤ LIM then some (.ok (.int a.length) h) else none := rfl
@[simp] theorem ev_lenT {ws : List U} : fLen [.tup ws] h = some (.ok (.int ws.length) h) := rfl
theorem atI_0 {α : Type} {x : α} {xs : List α} : atI (x :: xs) 0 = some x := by
  simp [atI, ixN]
end
end ML

set_option maxHeartbeats 4000000
/-! loops and comprehensions whose turns are known; texts -/
namespace ML
open PySem L2
section
variable {ρ : Ev} {h : Hm}
theorem lcGo_pure {chk : Hm → Prop} {t : NT} {te : ME} {D : Nat} {g : U → U} (hD : ∃ h1, ∀ acc, chk (h1 ++ [.lst acc])) : True := trivial
theorem lc_pure {it : MI} {t : NT} {te : ME} {vs : List Nat} {h1 : Hm} {ws : List U} {chk : Hm → Prop} {g : U → U} (hi : it ρ h = some (.ok (ws, chk) h1)) (hc : ∀ acc, chk (h1 ++ [.lst acc]))
    (hl : ws.length ≤ LIM) (ht : ∀ w ∈ ws, ∃ ρ1, t.set w (wipeE ρ vs) = some ρ1 ∧ ∀ acc, te ρ1 (h1 ++ [.lst acc]) = some (.ok (g w) (h1 ++ [.lst acc]))) :
    mLc it t mYes te vs ρ h = some (.ok (.ref h1.length) (h1 ++ [.lst (ws.map g)])) := by
  unfold mLc
  rw [hi]
  simp only [bnd_ok]
  have key : ∀ (us acc : List U), (∀ w ∈ us, w ∈ ws) → acc.length + us.length ≤ LIM → lcGo chk t mYes te (wipeE ρ vs) h1.length us (h1 ++ [.lst acc]) = some (.ok (.ref h1.length) (h1 ++ [.lst (acc ++ us.map g)])) := by
    intro us
    induction us with
    | nil => intro acc _ _; unfold lcGo; rw [if_pos (hc acc)]; simp
    | cons w us ih =>
      intro acc hm hl
      obtain ⟨ρ1, e1, e2⟩ := ht w (hm w List.mem_cons_self)
      unfold lcGo
      rw [if_pos (hc acc), e1]
      simp only [mYes, noEx, bnd_ok, if_true, e2]
      have : (h1 ++ [Cell.lst acc])[h1.length]? = some (.lst acc) := by simp
      rw [this]
      simp only
      simp only [List.length_cons] at hl
      rw [if_pos (by omega)]
      have e3 : (h1 ++ [Cell.lst acc]).set h1.length (.lst (acc ++ [g w])) = h1 ++ [.lst (acc ++ [g w])] := by
        rw [List.set_append_right _ _ (Nat.le_refl _)]
        simp
      rw [e3, ih (acc ++ [g w]) (fun u hu => hm u (List.mem_cons_of_mem _ hu)) (by simp; omega)]
      simp
  have := key ws [] (fun w hw => hw) (by simpa using hl)
  simpa using this
theorem blsOf_map {α : Type} {p : α → Bool} : ∀ (L : List α), blsOf (L.map fun c => .bl (p c)) = some (L.map p)
  | [] => rfl
  | c :: L => by
    show (match blsOf (L.map fun c => U.bl (p c)) with
      | some bs => some (p c :: bs)
      | none => none) = _
    rw [blsOf_map L]
    rfl
/-- a loop each turn of which goes on -/
theorem for_nil {chk : Hm → Prop} {g : MG} {body : MS} (hc : chk h) : forC chk g body [] ρ h = some (.nx ρ h) := by
  unfold forC; rw [if_pos hc]
theorem for_cons {chk : Hm → Prop} {g : MG} {body : MS} {w : U} {ws : List U} {ρ1 ρ2 : Ev} {h2 : Hm} (hc : chk h) (hg : g w ρ = some ρ1) (hb : body ρ1 h = some (.nx ρ2 h2)) : forC chk g body (w :: ws) ρ h = forC chk g body ws ρ2 h2 := by
  conv => lhs; unfold forC
  rw [if_pos hc, hg]
  simp only [hb]
theorem for_rt {chk : Hm → Prop} {g : MG} {body : MS} {w x : U} {ws : List U} {ρ1 : Ev} {h2 : Hm} (hc : chk h) (hg : g w ρ = some ρ1) (hb : body ρ1 h = some (.rt x h2)) : forC chk g body (w :: ws) ρ h = some (.rt x h2) := by
  conv => lhs; unfold forC
  rw [if_pos hc, hg]
  simp only [hb]
theorem str_ext {a b : Str} (h : a.cps.toList = b.cps.toList) : a = b := by
  cases a; cases b
  simp only at h
  congr
  exact Array.toList_inj.mp h
theorem str_eq_iff {a b : Str} : a = b ↔ a.cps.toList = b.cps.toList := ⟨fun h => by rw [h], str_ext⟩
theorem str_len (a : Str) : a.length = a.cps.toList.length := by simp [Str.length]
theorem str_app (a b : Str) : (a ++ b).cps.toList = a.cps.toList ++ b.cps.toList := by
  show (a.cps ++ b.cps).toList = _
  simp
theorem str_app_len (a b : Str) : (a ++ b).length = a.length + b.length := by
  rw [str_len, str_app, List.length_append, ← str_len, ← str_len]
def isDig (c : Nat) : Bool := decide (48 ≤ c) && decide (c ≤ 57)
theorem digs : ("0123456789" : Str).cps.toList = [48, 49, 50, 51, 52, 53, 54, 55, 56, 57] := by decide +kernel
theorem digs_mem (c : Nat) : (decide (c ∈ ("0123456789" : Str).cps.toList)) = isDig c := by
  rw [digs, isDig]
  simp only [List.mem_cons, List.not_mem_nil, or_false]
  by_cases h : 48 ≤ c ∧ c ≤ 57
  · have : c = 48 ∨ c = 49 ∨ c = 50 ∨ c = 51 ∨ c = 52 ∨ c = 53 ∨ c = 54 ∨ c = 55 ∨ c = 56 ∨ c = 57 := by omega
    simp [h.1, h.2, this]
  · have : ¬ (c = 48 ∨ c = 49 ∨ c = 50 ∨ c = 51 ∨ c = 52 ∨ c = 53 ∨ c = 54 ∨ c = 55 ∨ c = 56 ∨ c = 57) := by omega
    simp only [this, decide_false]
    by_cases h1 : 48 ≤ c <;> by_cases h2 : c ≤ 57 <;> simp [h1, h2] at h ⊢
theorem find_one (z : Str) (c : Nat) : (Txt.find z ⟨#[c]⟩ = -1 ∧ c ∉ z.cps.toList) ∨ ∃ i : Nat, Txt.find z ⟨#[c]⟩ = (i : Int) ∧ z.cps.toList[i]? = some c := by
  have at_ : ∀ i, StrLaws.At z ⟨#[c]⟩ z.length i ↔ z.cps.toList[i]? = some c := fun i => by
    unfold StrLaws.At Builtin.Str.subAt
    show i + 1 ≤ z.cps.size ∧ (z.cps.extract i (i + 1) == #[c]) = true ↔ _
    rw [beq_iff_eq]
    constructor
    · rintro ⟨h1, h2⟩
      have : (z.cps.extract i (i + 1))[0]? = some c := by rw [h2]; rfl
      rw [Array.getElem?_extract] at this
      simp at this
      rw [Array.getElem?_toList]
      have := this.2
      simpa using this
    · intro e
      rw [Array.getElem?_toList] at e
      have hi := (Array.getElem?_eq_some_iff.mp e).1
      refine ⟨hi, ?_⟩
      apply Array.ext
      · simp; omega
      · intro j h1 h2
        simp at h2
        subst h2
        simp
        exact (Array.getElem?_eq_some_iff.mp e).2
  rcases PyProof.Rows.find_whole z ⟨#[c]⟩ with ⟨e, no⟩ | ⟨i, e, hi, _⟩
  · refine .inl ⟨e, fun hc => ?_⟩
    obtain ⟨i, hi⟩ := List.getElem?_of_mem hc
    exact no i ((at_ i).mpr hi)
  · exact .inr ⟨i, e, (at_ i).mp hi⟩
theorem find_dig (c : Nat) : Txt.find ("0123456789" : Str) ⟨#[c]⟩ = if isDig c = true then ((c - 48 : Nat) : Int) else -1 := by
  rcases find_one "0123456789" c with ⟨e, no⟩ | ⟨i, e, hi⟩
  · have := digs_mem c
    rw [decide_eq_false no] at this
    rw [e, ← this]
    rfl
  · rw [e]
    rw [digs] at hi
    have hl := (List.getElem?_eq_some_iff.mp hi).1
    have hl : i < 10 := hl
    have : c = 48 + i := by
      rcases i with _ | _ | _ | _ | _ | _ | _ | _ | _ | _ | i <;> first | omega | (simp at hi; omega)
    subst this
    rw [if_pos (by unfold isDig; simp; omega)]
    simp
end
end ML

set_option maxHeartbeats 4000000
/-! raise of an own error that has no __init__ of its own -/
namespace ML
open PySem PySem.Spec PyProof.Rows L2
section
variable {X : Cx} {pos p p' : Pos} {x : Str} {C : Addr}
theorem pmk_bare {bmB : List Value} {B newId initId : String} (F : ExcBaseFacts B newId initId bmB) (q : PySem.W.excIn X.K C bmB newId = true) (gC : X.mg x = some (.ref C)) (kC : PySem.W.keepIn X.K (.ref C) = true) (r : Raises X (.ref C)) (hg : Gl X x)
    (hdb : (x == ("__debug__" : Str)) = false) : PMk X (.Call (.Name x p) [] [] pos) (fun _ H Q => Q (.ref C) none H) := by
  intro pins s σ H Q I h
  refine wpAny_Call_Name_kw (ld_glob I hg gC ?_ hdb)
  obtain ⟨bm, N, nm, qn, bs, hdct, sn, sub, ab, col, dd, k0, k1, k2, k3, k5, mN, hC, hN, hni, T⟩ := exc_obj I.kIn q
  exact PySem.W.callWith_K0 I.kIn kC (wpAny_call_exc_subT F T hC hN hni (fun h' e hm => mk_of I hm r h (I.hok.gone hm.new)) (Nat.zero_le _))
def mRaise0 (c : Nat) : MS := fun ρ h => some (.ex c [] ρ h)
structure BareErr (G : Gm) (mg : Str → Option Value) (x : Str) (c : Nat) : Prop where
  ex : ∃ (bmB : List Value) (B newId initId : String), ExcBaseFacts B newId initId bmB ∧ PySem.W.excIn G.K (G.ca c) bmB newId = true
  gl : mg x = some (.ref (G.ca c))
  kp : PySem.W.keepIn G.K (.ref (G.ca c)) = true
  h1 : PySem.W.subIn G.K (.ref (G.ca c)) (.type "BaseException") = some true
  h2 : PySem.W.typeIn G.K (.ref (G.ca c)) = some (.type "type")
theorem dRaise0 {G : Gm} {Wx : WX} {c : Nat} (hG : X.K = G.K) (b : BareErr G X.mg x c) (tk : Takes X Wx) (hc : X.calm = true) (hg : X.env.kindOf x = some .globalImplicit) (hd : (x == ("__debug__" : Str)) = false) :
    PS X (.Raise (some (.Call (.Name x p) [] [] pos)) none p') (tS G Wx (mRaise0 c)) := by
  obtain ⟨⟨bmB, B, newId, initId, F, q⟩, gl, kp, h1, h2⟩ := b
  obtain ⟨K, ca⟩ := G
  subst hG
  refine (ps_raise hc tk (pmk_bare F q gl kp (raises_own h1 h2) hg hd)).weak fun D σ H ⟨μ, ρ, h, s, p⟩ => ?_
  exact p μ σ H (.ref (ca c)) none (Gr.refl s.rel) s ⟨rfl, .inl ⟨rfl, rfl⟩⟩
end
end ML

set_option maxHeartbeats 4000000
/-! an own error's __init__ that keeps a new list of its argument -/
namespace ML
open PySem L2
def mkL (f : Str) : MX := fun ws h => match (match ws with
    | [.ref i] => rd h i
    | [.tup us] => some us
    | _ => none) with
  | some us => some ([(f, .ref h.length)], h ++ [.lst us])
  | none => none
section
variable {G : Gm} {CX : CXT} {P : Program} {w : World} {mg : Str → Option Value} {base : Heap} {k : Nat} {f cc cda : Addr} {c : Nat} {name qual : Str} {params : Arguments} {m : Str} {j0 : Nat} {p0 p1 p2 p3 p4 p5 q1 q2 q3 q4 q5 q6 : Pos} {scope : Scope} {dV kV doc pm ct oc : Value} {an od : Option Addr}
    {osl : Array (Option Value)} {pn fn : Str}
theorem init_lst (lk : G.K.lookup f = some ⟨oc, od, .func (PySem.W.ksFn name qual params [.Expr (.Call (.Attribute (.Call (.Name "super" p0) [] [] p1) "__init__" p2) [.Constant (.str m) j0 p5] [] p3) p4, .Assign [.Attribute (.Name "self" q1) fn q2] (.Call (.Name "list" q5) [.Name pn q3] [] q6) q4] scope dV kV doc pm an (.ref cda) ct cc), osl⟩)
    (T : SupTxt G.K mg (G.ca c) f cc cda qual) (S : SupScope ["self", pn] ["self", pn] scope) (hfile : ((P.main.file : Str) == ("/claim/cut.py" : Str)) = true) (htop : (P.main.scope.names.lookup ("super" : Str)).isSome = false)
    (har : ∃ ar : Arg, (params.posonlyargs ++ params.args).head? = some ar ∧ ([("self" : Str), pn]).head? = some ar.arg)
    (hswap : ∀ env : Env, swapsWith (.Call (.Attribute (.Call (.Name "super" p0) [] [] p1) "__init__" p2) [.Constant (.str m) j0 p5] [] p3) none p4.line env = pure false)
    (hmeth : ∀ env : Env, eval (.Call (.Attribute (.Call (.Name "super" p0) [] [] p1) "__init__" p2) [.Constant (.str m) j0 p5] [] p3) env = (do
      let ov ← attributeBase (.Call (.Name "super" p0) [] [] p1) "__init__" env (eval (.Call (.Name "super" p0) [] [] p1) env)
      standAt p2.atName
      let (f, first) ← holding [ov] (getMethod ov "__init__" (pure false))
      callWith p3 f first (backTo p3 (starEach [.Constant (.str m) j0 p5] env)) []))
    (hstar : ∀ env : Env, starEach [.Constant (.str m) j0 p5] env = (false, eval (.Constant (.str m) j0 p5) env) :: starEach [] env)
    (hlist : mg "list" = none) (hls : scope.names.lookup ("list" : Str) = some NameKind.globalImplicit) (hsw2 : ∀ env : Env, swapsWith (.Call (.Name "list" q5) [.Name pn q3] [] q6) (some (.Attribute (.Name "self" q1) fn q2)) q4.line env = pure false)
    (hpn : (pn == ("__debug__" : Str)) = false ∧ (pn == ("__classdict__" : Str)) = false) (hfn : PySem.W.findIn G.K (.ref (G.ca c)) fn = some none) :
    FnOk P w G.K mg base CX (k + 1) f (PySem.W.ksFn name qual params [.Expr (.Call (.Attribute (.Call (.Name "super" p0) [] [] p1) "__init__" p2) [.Constant (.str m) j0 p5] [] p3) p4, .Assign [.Attribute (.Name "self" q1) fn q2] (.Call (.Name "list" q5) [.Name pn q3] [] q6) q4] scope dV kV doc pm an (.ref cda) ct cc) ["self", pn] (spX G c 1 (mkL fn)) := by
  refine fnS_of lk T S hfile htop har (fun vs H Q E z => ?_) hswap hmeth hstar fun A outer s H vs Q E hr hsp => ?_
  · obtain ⟨a, xs, μ, h, ws, fs, h2, rfl, hl, _⟩ := z
    simp [hl]
  · obtain ⟨a, xs, μ, h, ws, fs, h2, rfl, hl, ha, rel, off, rs, em, q⟩ := hsp
    have hpe : PE (cxS CX P w G.K mg base ["self", pn] qual scope f (.ref cda) cc A outer s H E) (.Constant (.str m) j0 p5) (tC (.str m)) := pe_str
    refine ⟨a, _, _, rfl, ha, hpe, pss_one (ps_ost (pvS (i := 0) rfl (S.par _ (by simp)) (by decide) (by decide)) (pe_callTy call_list_of hls hlist (by decide +kernel) (pa_cons (pvS (i := 1) rfl (S.par _ (by simp)) hpn.1 hpn.2) pa_nil) (by decide) (by decide)) (hsw2 _)), ha, ?_⟩
    unfold mkL at em
    split at em
    · rename_i us eu
      cases em
      have key : ∃ p ys, xs = [.ref p] ∧ (SqL G.K H p ys ∨ SqT G.K H p ys) ∧ RUs G.K μ h.length H us ys := by
        split at eu
        · rename_i i
          obtain ⟨v, rfl, r⟩ := rus1 rs
          simp only [RU] at r
          obtain ⟨_, rfl⟩ := r
          obtain ⟨ys, sq, rr⟩ := rd_ok rel eu
          exact ⟨_, ys, rfl, .inl sq, rr⟩
        · rename_i us'
          cases eu
          obtain ⟨v, rfl, r⟩ := rus1 rs
          simp only [RU] at r
          obtain ⟨b, ys, rfl, st, rr⟩ := r
          exact ⟨_, ys, rfl, .inr st, rr⟩
        · cases eu
      obtain ⟨p, ys, rfl, sq, rr⟩ := key
      refine ⟨.ref p, rfl, p, ys, rfl, sq, fun l nl => ?_⟩
      have nal : a ≠ l := ne_of_none ha nl
      have ha' : upd H l (.lst ys) a = some (exo a (G.ca c) none) := by rw [upd_ne nal]; exact ha
      have gD := Gr.new (o := .lst ys) (c := .lst us) rel nl ⟨ys, upd_same, RUs.mono (fun i hi => nu_old hi) (Nat.le_succ _) (TS0.fresh nl) _ _ rr⟩
      have off' : ExcOff (nu μ h.length l) (h ++ [.lst us]) a := fun i k fs e => by
        by_cases hi : i < h.length
        · rw [List.getElem?_append_left hi] at e
          rw [nu_old hi]
          exact off i k fs e
        · have h1 := (List.getElem?_eq_some_iff.mp e).1
          have h2 : i = h.length := by simp at h1; omega
          subst h2
          simp at e
      refine ⟨.ref a, rfl, a, G.ca c, rfl, T.ox, hfn, .inl ⟨ha', fun dx nd da => ?_⟩⟩
      exact q _ (upd H l (.lst ys)) dx [(fn, .ref l)] gD ha' off' nd da (fun b z => by
        by_cases hb : b = l
        · rw [hb, upd_same]; simp
        · rw [upd_ne hb]; exact z) (rf1 (by simp only [RU]; exact ⟨by simp, by rw [nu_new]⟩))
    · cases em
end
end ML

set_option maxHeartbeats 4000000
/-! from the function of the law's top to the promise -/
namespace ML
open PySem L2
def spLaw (K : PySem.W.Frag) : Sp := fun vs H Q _ => ∃ (a : Addr) (ns : List Int), vs = [.ref a] ∧ SqL K H a (ns.map V.int) ∧ ns.length ≤ 63 ∧ ∀ H', Q (.bl true) H'
theorem rus_ints {K : PySem.W.Frag} {μ : Nat → Addr} {n : Nat} {H : Hp} : ∀ ns : List Int, RUs K μ n H (ns.map U.int) (ns.map V.int)
  | [] => RUs.nil
  | n :: ns => RUs.cons (by simp only [RU]) (rus_ints ns)
theorem one_cell {G : Gm} {H : Hp} {a : Addr} {c : Cell} (r : RCell G (fun _ => a) 1 H a c) : HRel G (fun _ => a) [c] H := by
  refine ⟨fun i d e => ?_, fun i j d1 d2 e1 e2 _ _ _ => ?_⟩
  · have hi := (List.getElem?_eq_some_iff.mp e).1
    have hi : i = 0 := by simp at hi; exact hi
    subst hi
    cases e
    exact r
  · have hi := (List.getElem?_eq_some_iff.mp e1).1
    have hj := (List.getElem?_eq_some_iff.mp e2).1
    simp at hi hj
    omega
theorem law_to {P : Program} {w : World} {G : Gm} {mg : Str → Option Value} {base : Heap} {k : Nat} {f : Addr} {fd : FuncData} {x : Str} {m : MF} (F : FnM P w G mg base k f fd [x] m)
    (hm : ∀ (ns : List Int) (c : Cell), ns.length ≤ 63 → (c = .lst (ns.map U.int) ∨ c = .frz (ns.map U.int)) → ∃ h', m [.ref 0] [c] = some (.ok (.bl true) h')) : FnOk P w G.K mg base (L2.CX P w) k f fd [x] (spLaw G.K) :=
  FnOk.imp F fun vs H Q E ⟨a, ns, ev, sq, hl, q⟩ => by
    subst ev
    have fin : ∀ c, (c = .lst (ns.map U.int) ∨ c = .frz (ns.map U.int)) → RCell G (fun _ => a) 1 H a c → spM G [x].length m [.ref a] H Q E := fun c hc r => by
      obtain ⟨h', e⟩ := hm ns c hl hc
      refine ⟨fun _ => a, [c], [.ref 0], one_cell r, RUs.cons (by simp [RU]) RUs.nil, rfl, ?_⟩
      rw [e]
      intro μ' H' g v rv
      simp only [RU] at rv
      subst rv
      exact q H'
    rcases sq with (sq | ⟨o, sq⟩) | sq
    · exact fin _ (.inl rfl) ⟨_, sq, rus_ints ns⟩
    · exact fin _ (.inr rfl) ⟨_, .inl ⟨o, sq⟩, rus_ints ns⟩
    · exact fin _ (.inr rfl) ⟨_, .inr sq, rus_ints ns⟩
theorem law_walk {l : PySem.W.OpenLaw} {q : Program} {loose : List Str} {XP : (Str → Option Value) → Heap → Prop} {YP : World → Heap → Prop} {d : DefRec} {K : Params → PySem.W.Frag} {k : Nat} {x : Str} (hn : l.most = some 63) (hdf : d.params.defaults = []) (hk : Room k callerA)
    (hY : ∀ (w : World) (h : Heap), YP w h → (K w.params).In h)
    (F : ∀ (w : World) (mg : Str → Option Value) (fa : Addr) (h : Heap), (K w.params).In h → h.Ns mainGlobals mg → mg d.name = some (.ref fa) →
      ∃ fd : FuncData, (∀ (s : Shared) (u : Value), BindsTo s fd ⟨[u], []⟩ [(x, u)]) ∧ ∀ base : Heap, (K w.params).In base → base.Ns mainGlobals mg → FnOk l.prog w (K w.params) mg base (L2.CX l.prog w) k fa fd [x] (spLaw (K w.params))) :
    PySem.W.WalkO q loose XP YP l.row.toRowW d [] (fun f vs => PySem.call f vs) :=
  L2.walk_of (n := 63) (k := k) (x := x) (CX := fun w => L2.CX l.prog w) (sp := fun w => spLaw (K w.params)) hn (by decide) hdf hk hY F (fun _ _ a ns hl _ hS => ⟨a, ns, rfl, hS, hl, fun _ => rfl⟩)
    fun _ _ _ _ _ ⟨_, _, _, _, _, _, _, _, _, _, _, _, z⟩ => z
theorem mk1_ok {f : Str} : ∀ ws h r, mk1 f ws h = some r → True ∧ mk1 f ws h = some r := fun _ _ _ e => ⟨trivial, e⟩
theorem mk2_ok {f g : Str} : ∀ ws h r, mk2 f g ws h = some r → True ∧ mk2 f g ws h = some r := fun _ _ _ e => ⟨trivial, e⟩
theorem mk2s_ok {f g : Str} : ∀ ws h r, mk2s f g ws h = some r → (∃ s, ws[0]? = some (.str s) ∧ s.length ≤ LIM) ∧ mk2 f g ws h = some r := fun ws h r e => by
  unfold mk2s at e
  split at e
  · rename_i s u
    split at e
    · rename_i hl
      exact ⟨⟨s, rfl, hl⟩, e⟩
    · cases e
  · cases e
theorem mk2t_ok {f g : Str} : ∀ ws h r, mk2t f g ws h = some r → (∃ s, ws[1]? = some (.str s) ∧ s.length ≤ LIM) ∧ mk2 f g ws h = some r := fun ws h r e => by
  unfold mk2t at e
  split at e
  · rename_i w s
    split at e
    · rename_i hl
      exact ⟨⟨s, rfl, hl⟩, e⟩
    · cases e
  · cases e
theorem binds1 {K : PySem.W.Frag} {fd : FuncData} {x y : Str} (h : ∀ a b, bindArgs fd ⟨[a, b], []⟩ = pure [(x, a), (y, b)]) : Binds K fd [x, y] [] := fun s us _ hl => by
  match us, hl with
  | [a, b], _ => exact BindsTo.of_eq (h a b)
theorem binds2 {K : PySem.W.Frag} {fd : FuncData} {x y z : Str} (h : ∀ a b c, bindArgs fd ⟨[a, b, c], []⟩ = pure [(x, a), (y, b), (z, c)]) : Binds K fd [x, y, z] [] := fun s us _ hl => by
  match us, hl with
  | [a, b, c], _ => exact BindsTo.of_eq (h a b c)
theorem exm_of {K : PySem.W.Frag} {S T : Addr} {b : Bool} (h1 : PySem.W.subIn K (.ref S) (.type "BaseException") = some true) (h2 : PySem.W.isClsIn K S = true) (h3 : PySem.W.typeIn K (.ref S) = some (.type "type")) (h4 : PySem.W.subIn K (.ref T) (.ref S) = some b) :
    PySem.W.exmOne K (.ref T) (.ref S) = some b := by
  have h2' : (PySem.W.clsIn K S).isSome = true := h2
  unfold PySem.W.exmOne PySem.W.kitCls
  rw [h1, if_pos (by rfl)]
  simp only
  rw [h2', h3, if_pos (by rfl)]
  exact h4
theorem kit_of {K : PySem.W.Frag} {S T : Addr} {b : Bool} (h2 : PySem.W.isClsIn K S = true) (h3 : PySem.W.typeIn K (.ref S) = some (.type "type")) (h4 : PySem.W.subIn K (.ref T) (.ref S) = some b) (h5 : PySem.W.mroIn K S (.ref S) = some true) :
    PySem.W.kitOne K (.ref T) (.ref S) = some b := by
  have h2' : (PySem.W.clsIn K S).isSome = true := h2
  unfold PySem.W.kitOne
  split
  · rename_i e
    have e := eq_of_beq e
    cases e
    have h4 : PySem.W.mroIn K S (.ref S) = some b := h4
    rw [← h4, h5]
  · unfold PySem.W.kitCls
    simp only
    rw [h2', h3, if_pos (by rfl)]
    exact h4
theorem sup_of {K : PySem.W.Frag} {C D : Addr} {name nm q nm' q' : Str} {N N' : Addr} {bs bs' bm' : List Value} {sn sn' : List Str} {sub sub' : List Value} {ab ab' : Bool} {col col' : Option Bool} {dd dd' : Option Addr} {m0 m1 m2 m3 m5 m0' m1' m2' m3' m5' : Option Value} {w w' : String} {r : Option Value}
    (x : K.lookup C = some (excClassObj nm q C N bs (.ref D :: bm') true sn sub ab col dd m0 m1 m2 m3 m5 w)) (y : K.lookup D = some (excClassObj nm' q' D N' bs' bm' true sn' sub' ab' col' dd' m0' m1' m2' m3' m5' w'))
    (f : PySem.W.findIn K (.ref D) name = some r) : PySem.W.ks_superIn K C C name = some r := by
  unfold PySem.W.ks_superIn PySem.W.clsIn
  unfold PySem.W.findIn at f
  rw [x]
  simp only [excClassObj] at y f ⊢
  rw [y] at f
  simp only at f
  simp only [Option.bind_some]
  have : (Value.ref C != Value.ref C) = false := by simp
  rw [List.dropWhile_cons, this]
  exact f
theorem cls_of {K : PySem.W.Frag} {S : Addr} (h : PySem.W.isClsIn K S = true) : (PySem.W.clsIn K S).isSome = true := h
theorem kit_b {K : PySem.W.Frag} {C : Addr} {T : String} {b : Bool} (hT : PySem.W.kitMeta T = true) (h : PySem.W.subIn K (.ref C) (.type T) = some b) : PySem.W.kitOne K (.ref C) (.type T) = some b := by
  unfold PySem.W.kitOne
  split
  · rename_i e
    have e := eq_of_beq e
    cases e
  · unfold PySem.W.kitCls
    simp only
    rw [if_pos hT]
    exact h
end ML

set_option maxHeartbeats 4000000
/-! tables of own errors, built row by row -/
namespace ML
open PySem L2
section
variable {G : Gm} {f : Str} {a b c : Nat} {cv : Value} {t : Nat → Option Bool} {k : Bool}
def AtE (G : Gm) (f : Str) (a : Nat) : Prop := ExcK G.K (G.ca a) ∧ PySem.W.findIn G.K (.ref (G.ca a)) f = some none
theorem atx0 : AtX G f (fun _ => false) (fun _ => false) := ⟨fun c hc => (nomatch hc), fun c hc => (nomatch hc)⟩
theorem atx1 (h : AtE G f a) : AtX G f (fun _ => false) (fun c => decide (c = a)) := ⟨fun c hc => (nomatch hc), fun c hc => by rw [of_decide_eq_true hc]; exact h⟩
theorem atxN {e : Nat → Bool} (h : AtX G f (fun _ => false) e) (q : AtE G f a) : AtX G f (fun _ => false) (fun c => e c || decide (c = a)) := ⟨fun c hc => (nomatch hc), fun c hc => by
  rcases Bool.or_eq_true_iff.mp hc with hc | hc
  · exact h.exc c hc
  · rw [of_decide_eq_true hc]; exact q⟩
theorem tak_nil : TakC G (fun _ => none) cv := fun k b h => (nomatch h)
theorem tak_cons (h : PySem.W.exmOne G.K (.ref (G.ca a)) cv = some k) (q : TakC G t cv) : TakC G (fun c => if c = a then some k else t c) cv := fun c b e => by
  have e : (if c = a then some k else t c) = some b := e
  by_cases hc : c = a
  · subst hc
    rw [if_pos rfl] at e
    cases e
    exact h
  · rw [if_neg hc] at e
    exact q c b e
def tabX (t : Nat → Option Bool) : TyK → Option Bool
  | .exc c => t c
  | _ => none
/-- what the table says is so -/
def KitT (G : Gm) (t : Nat → Option Bool) (u : Value) : Prop := ∀ c b, t c = some b → PySem.W.kitOne G.K (.ref (G.ca c)) u = some b ∧ ExcK G.K (G.ca c)
theorem kit_nil : KitT G (fun _ => none) cv := fun k b h => (nomatch h)
theorem kit_cons (h : PySem.W.kitOne G.K (.ref (G.ca a)) cv = some k) (e : ExcK G.K (G.ca a)) (q : KitT G t cv) : KitT G (fun c => if c = a then some k else t c) cv := fun c b z => by
  have z : (if c = a then some k else t c) = some b := z
  by_cases hc : c = a
  · subst hc
    rw [if_pos rfl] at z
    cases z
    exact ⟨h, e⟩
  · rw [if_neg hc] at z
    exact q c b z
theorem isi_tab {v : V} (cl : ClsV v cv) (q : KitT G t cv) : IsiC G (tabX t) v cv := ⟨cl, fun k b h => by
  cases k with
  | exc c => exact (q c b h).1
  | _ => (cases h), fun c b h => (nomatch h), fun c b h => (q c b h).2⟩
end
end ML

set_option maxHeartbeats 4000000
/-! own classes: making, methods, attributes, own comparisons, as they are printed -/
namespace ML
open PySem L2
section
variable {X : Cx} {G : Gm} {Wx : WX} {e a b o : Expr} {es : List Expr} {x f m : Str} {pos p p' apos : Pos} {ma mb mo : ME} {mas : MA}
theorem dSetAt {ok : Nat → Bool} (hG : X.K = G.K) (t : AtC G f ok) (he : PE X e (tE G Wx ma)) (ho : PE X o (tE G Wx mo)) (hs : swapsWith e (some (.Attribute o f p')) pos.line X.env = pure false) : PS X (.Assign [.Attribute o f p'] e pos) (tS G Wx (mSetAt f ok mo ma)) := by
  have r := ps_fld ho he hs
  rw [hG] at r
  exact r.weak (w_setAt t)
/-- an own class that is made by its own __init__ -/
structure OwnCls (P : Program) (w : World) (G : Gm) (mg : Str → Option Value) (base : Heap) (x : Str) (k c n : Nat) (m : MF) : Prop where
  gl : mg x = some (.ref (G.ca c))
  ex : ∃ fI fd ps, Mk G.K (G.ca c) fI ∧ Binds G.K fd ps [] ∧ ps.length = n + 1 ∧ FnM P w G mg base k fI fd ps m
theorem dMake {k j c n : Nat} {mf : MF} (hG : X.K = G.K) (oc : OwnCls X.prog X.w G X.mg X.base x k c n mf) (hr : Room j X.A) (hk : k + 1 ≤ j) (tk : Takes X Wx) (ha : PA X (e :: es) (tA G Wx mas)) (al : AL mas n) (hg : X.env.kindOf x = some .globalImplicit) (hd : (x == ("__debug__" : Str)) = false) (so : StarOk X pos e es) :
    PE X (.Call (.Name x p) (e :: es) [] pos) (tE G Wx (mMake c mf mas)) := by
  obtain ⟨fI, fd, ps, M, hb, hl, F⟩ := oc.ex
  have gl := oc.gl
  unfold FnM at F
  rw [hl] at F
  obtain ⟨K, ca⟩ := G
  subst hG
  exact (pe_makeS M F (hr.mono hk) hg gl hb (passAt tk) ha hd so.s so.p).weak (w_make al)
/-- a method of an own class -/
structure OwnMeth (P : Program) (w : World) (G : Gm) (mg : Str → Option Value) (base : Heap) (m : Str) (k c n : Nat) (mf : MF) : Prop where
  cl : Cls G.K (G.ca c)
  ex : ∃ f fd ps, Meth G.K (G.ca c) m f ∧ Binds G.K fd ps [] ∧ ps.length = n + 1 ∧ FnM P w G mg base k f fd ps mf
theorem dMeth {k j c n : Nat} {mf : MF} {pl : Sem Bool} (hG : X.K = G.K) (om : OwnMeth X.prog X.w G X.mg X.base m k c n mf) (hr : Room j X.A) (hk : k ≤ j) (tk : Takes X Wx) (ho : PE X o (tE G Wx mo)) (ha : PA X (e :: es) (tA G Wx mas)) (al : AL mas n) (so : StarOk X pos e es)
    (ht : eval (.Call (.Attribute o m apos) (e :: es) [] pos) X.env = (do
      let ov ← eval o X.env
      standAt apos.atName
      let (f, first) ← holding [ov] (getMethod ov m pl)
      callWith pos f first (backTo pos (starEach (e :: es) X.env)) (backToKw pos (keywordEach [] X.env)))) :
    PE X (.Call (.Attribute o m apos) (e :: es) [] pos) (tE G Wx (mMeth c m mf mo mas)) := by
  obtain ⟨f, fd, ps, M, hb, hl, F⟩ := om.ex
  have cl := om.cl
  unfold FnM at F
  rw [hl] at F
  obtain ⟨K, ca⟩ := G
  subst hG
  exact (pe_methS ho cl M F (hr.mono hk) hb (passAt tk) ha so.s so.p ht).weak (w_meth al)
/-- x op y by an own def of the class of x -/
def rOwnI (K : PySem.W.Frag) (C : Addr) (sp : Sp) : R2 := fun x y H Q => ∃ a dx fs b C' dy gs, x = .ref a ∧ y = .ref b ∧ H a = some (.ins C dx fs) ∧ H b = some (.ins C' dy gs) ∧ PySem.W.notFirst K C (.ref C') = true ∧ sp [x, y] H Q fun _ _ _ => False
theorem typ_ins {pins : List (Addr × Obj)} {σ : L2.St} {H : Hp} {s : Shared} {a C dx : Addr} {fs : List (Str × V)} (I : L2.Inv X pins σ H s) (h : H a = some (.ins C dx fs)) : ∃ od, PySem.W.InstAt s.heap a (PySem.W.instObj C dx) C (some od) := by
  obtain ⟨mA, O, _⟩ := ins_get I.hok h
  obtain ⟨od, J, _⟩ := O.look
  exact ⟨od, J⟩
theorem back_of {P : Value → Shared → Prop} {z : V} {v : Value} {s' : Shared} (r : RelV z v) (h : P v s') : PySem.W.CmpBack P v s' := by
  unfold PySem.W.CmpBack
  split
  · exfalso
    cases z <;> first | (exact Value.noConfusion r; done) | (obtain ⟨t, r⟩ := r; exact Value.noConfusion r; done) | skip
    all_goals (first | (exact Value.noConfusion (show _ = _ from r); done) | (obtain ⟨t, r⟩ := (show ∃ t, _ = _ from r); exact Value.noConfusion r; done) | cases r)
  · exact h
theorem op_ownI {CX : CXT} {C g : Addr} {k : Nat} {fd : FuncData} {ps : List Str} {sp : Sp} {op : CmpOp} (hop : ∀ a b, compareOp op a b = richCompare op a b) (hs : PySem.W.findIn X.K (.ref C) (cmpInfo op).2.1 = some (some (.ref g))) (hf : PySem.W.isFn X.K (.ref g) = true)
    (F : FnOk X.prog X.w X.K X.mg X.base CX k g fd ps sp) (hr : Room k X.A) (hb : Binds X.K fd ps []) (hx : ∀ σ, PassesAt CX X σ fun _ _ _ => False) : OpR X (compareOp op) (rOwnI X.K C sp) := by
  intro pins s σ H x y v u Q I rx ry h
  obtain ⟨a, dx, fs, b, C', dy, gs, rfl, rfl, ha, hb2, hn, q⟩ := h
  obtain rfl : v = Value.ref a := rx
  obtain rfl : u = Value.ref b := ry
  obtain ⟨od, J⟩ := typ_ins I ha
  obtain ⟨od', J'⟩ := typ_ins I hb2
  obtain ⟨m, fr⟩ := I.fr
  rw [hop]
  refine PySem.W.cmp_K hr.units0 fr I.ok.mod.kin J J'.type hn hs hf (wpAny_mono (run_fnS (E := fun _ _ _ _ => False) (us := [.ref a, .ref b]) (vs := [.ref a, .ref b]) F hr hb (hx σ) I (.cons rfl (.cons rfl .nil)) q) (fun w s' z => ?_) fun _ _ z => z)
  obtain ⟨z', H', I', rz, qz⟩ := z
  exact back_of rz ⟨z', H', I', rz, qz⟩
end
end ML

set_option maxHeartbeats 4000000
/-! x != y where the class of x has an own __eq__ alone -/
namespace ML
open PySem PySem.Spec PyProof.Rows L2
section
variable {prog : Program} {w : World} {A : Around} {E : Value → Shared → Prop} {s : Shared} {K : PySem.W.Frag} {x C : Addr} {ox : Obj} {od : Option Obj}
theorem bound_B {M : Model} {name : Str} {id : String} {args : List Value} {Q : Option Value → Shared → Prop} (hK : K.In s.heap) (J : PySem.W.InstAt s.heap x ox C od) (hs : PySem.W.findIn K (.ref C) name = some (some (.builtin id)))
    (hbind : ∀ self, bindSpecial (.builtin id) self = pure (.builtin id, [self])) (h : wpAny M A (call (.builtin id) (.ref x :: args)) (fun v => Q (some v)) E s) : wpAny M A (callSpecialIfBound? (.ref x) name args) Q E s := by
  unfold callSpecialIfBound?
  simp only [bindSpecialIfBound?]
  apply wpAny_holding
  refine wpAny_bind (wpAny_bind (wpAny_bind (J.type.here ((PySem.W.looks_findIn hK hs).here ?_))))
  simp only [hbind]
  refine wpAny_bind (wpAny_askSetting (wpAny_ite ?_))
  have done : wpAny M A (do let v ← call (.builtin id) ([.ref x] ++ args); pure (some v)) Q E s := by
    refine wpAny_bind (wpAny_mono h (fun v s' z => ?_) fun _ _ z => z)
    exact wpAny_pure z
  split
  · exact wpAny_bind (wpAny_pure (wpAny_pure (by exact done)))
  · exact wpAny_tryCatch (wpAny_bind (wpAny_pure (wpAny_pure (by exact done))))
/-- object.__ne__ over an own __eq__ that answers a truth value -/
theorem ne_entry {M : Model} {g : Addr} {b : Value} {Q : Fin → Shared → Prop} (hu : A.units < cLine) (hK : K.In s.heap) (J : PySem.W.InstAt s.heap x ox C od) (hs : PySem.W.findIn K (.ref C) "__eq__" = some (some (.ref g))) (hf : PySem.W.isFn K (.ref g) = true)
    (h : wpAny M A (call (.ref g) [.ref x, b]) (fun v s' => ∃ k, v = .bool k ∧ Q (.done (.ret (.bool !k))) s') E s) : wpAny M A (Builtin.«object.__ne__» ⟨[.ref x, b], []⟩) Q E s := by
  unfold Builtin.«object.__ne__»
  repeat (first | with_reducible refine wpAny_cRoomFor hu ?_ | with_reducible refine PySem.W.ifBound_K hK J hs hf (wpAny_mono h ?_ fun _ _ z => z) | wp_step)
  rintro v s' ⟨k, rfl, q⟩
  repeat wp_step
  exact q
/-- x op y by what the class of x has for it -/
theorem rich_one {op : CmpOp} {Q : Value → Shared → Prop} {b tb : Value} (hu : A.units < cLine) (hK : K.In s.heap) (J : PySem.W.InstAt s.heap x ox C od) (hb : PySem.W.Looks (model prog w) s.heap (typeOf b) tb) (hn : PySem.W.notFirst K C tb = true)
    (one : wpAny (model prog w) A (tryCompare (.ref x) (cmpInfo op).2.1 b) (fun r s' => ∃ v, r = some v ∧ Q v s') E s) : wpAny (model prog w) A (richCompare op (.ref x) b) Q E s := by
  have fin : ∀ {r : Option Value} {s' : Shared}, (∃ v, r = some v ∧ Q v s') → ∃ v, r = some v ∧ Q v s' := fun z => z
  unfold richCompare
  simp only [oneThing_ref]
  apply wpAny_holding
  refine wpAny_bind (wpAny_cRoomFor hu (wpAny_bind (J.type.here (wpAny_bind (hb.here ?_)))))
  split
  · rename_i q
    have e : PySem.W.subIn K tb (.ref C) = some false := by
      unfold PySem.W.notFirst at hn
      rcases Bool.or_eq_true_iff.mp hn with e | e
      · have e := eq_of_beq e
        subst e
        simp at q
      · exact eq_of_beq e
    refine wpAny_bind ((PySem.W.looks_subIn hK e).here ?_)
    simp only [Bool.false_eq_true, if_false]
    refine wpAny_bind (wpAny_mono one (fun r s' z => ?_) fun _ _ z => z)
    obtain ⟨v, rfl, z⟩ := z
    exact wpAny_pure z
  · refine wpAny_bind (wpAny_pure ?_)
    simp only [Bool.false_eq_true, if_false]
    refine wpAny_bind (wpAny_mono one (fun r s' z => ?_) fun _ _ z => z)
    obtain ⟨v, rfl, z⟩ := z
    exact wpAny_pure z
end
section
variable {X : Cx}
def rNeI (K : PySem.W.Frag) (C : Addr) (sp : Sp) : R2 := fun x y H Q => ∃ a dx fs b C' dy gs, x = .ref a ∧ y = .ref b ∧ H a = some (.ins C dx fs) ∧ H b = some (.ins C' dy gs) ∧ PySem.W.notFirst K C (.ref C') = true ∧ sp [x, y] H (fun z H' => ∃ k, z = .bl k ∧ Q (.bl !k) H') fun _ _ _ => False
theorem passN {X : Cx} {E : XK} (hE : ∀ c d H, ¬ E c d H) : Passes (L2.CX X.prog X.w) X E := by
  intro pins σ H s e s' I h
  obtain ⟨_, _, H', cls, d, _, _, _, _, _, _, _, z⟩ := h
  exact (hE _ _ _ z).elim
theorem op_neI {C g : Addr} {k : Nat} {fd : FuncData} {ps : List Str} {sp : Sp} (hne : PySem.W.findIn X.K (.ref C) "__ne__" = some (some (.builtin "object.__ne__"))) (hs : PySem.W.findIn X.K (.ref C) "__eq__" = some (some (.ref g))) (hf : PySem.W.isFn X.K (.ref g) = true)
    (hobj : PySem.W.subIn X.K (.ref C) (.type "object") = some true) (FO : FnOk X.prog X.w X.K X.mg X.base (L2.CX X.prog X.w) k g fd ps sp) (hr : Room (k + 2) X.A) (hb : Binds X.K fd ps []) : OpR X (compareOp .NotEq) (rNeI X.K C sp) := by
  intro pins s σ H x y v u Q I rx ry h
  obtain ⟨a, dx, fs, b, C', dy, gs, rfl, rfl, ha, hb2, hn, q⟩ := h
  obtain rfl : v = Value.ref a := rx
  obtain rfl : u = Value.ref b := ry
  obtain ⟨od, J⟩ := typ_ins I ha
  obtain ⟨od', J'⟩ := typ_ins I hb2
  have hu := hr.units0
  have hr1 : Room (k + 1) X.A.in1 := hr.in1
  have hr2 : Room k X.A.in1.in1 := hr1.in1
  have FR : FnR X.prog X.w X.K X.mg X.base (L2.CX X.prog X.w) k g sp := fun A outer s H us vs Q E r e v z => FO.run A outer s H ⟨us, []⟩ us vs Q E r e (by
    have hl : (us ++ []).length = ps.length := by rw [List.append_nil, ← v.length]; exact FO.len vs H Q E z
    have := hb s us (e.mod.kin.keeps fun b o q => (e.bs b o q).1) hl
    rw [List.append_nil] at this
    exact this) v z
  show wpAny _ _ (richCompare .NotEq (.ref a) (.ref b)) _ _ _
  refine rich_one hu I.kIn J J'.type hn ?_
  unfold tryCompare
  refine wpAny_bind (bound_B I.kIn J hne F.cmp_object.ne.bind ?_)
  refine wpAny_call (codeAny_call_builtin F.cmp_object.ne.plain F.cmpEntry_ne (PySem.W.check_slot F.cmpKind_ne F.cmpSplit_ne (J.type.andThen (PySem.W.looks_subIn I.kIn hobj)) (F.cmpArgs_ne _ _) ?_))
  refine ne_entry (A := X.A.in1) hr1.units0 I.kIn J hs hf (wpAny_mono (wpAny_call (SlX.run_at (us := [.ref a, .ref b]) (ws := [.ref a, .ref b]) FR (hr1.mono (Nat.le_succ _)) I.env0.in1 (passN fun _ _ _ z => z) I (.cons rfl (.cons rfl .nil)) q)) (fun v s' z => ?_) fun _ _ z => z)
  obtain ⟨z', H', I', rz, k', rfl, qz⟩ := z
  obtain rfl : v = Value.bool k' := rz
  refine ⟨k', rfl, ?_⟩
  exact wpAny_pure ⟨_, rfl, .bl !k', H', I', rfl, qz⟩
end
end ML

set_option maxHeartbeats 4000000
/-! == and != by an own __eq__, as computations -/
namespace ML
open PySem L2
def oOwnEq (c : Nat) (nf : Nat → Bool) (mf : MF) : O2 := fun x y h => match x, y with
  | .ref i, .ref j => match h[i]?, h[j]? with
    | some (.ins c1 _), some (.ins c2 _) => if (decide (c1 = c) && nf c2) = true then noEx (mf [.ref i, .ref j] h) else none
    | _, _ => none
  | _, _ => none
def notW (w : U) (h : Hm) : Option (Rz U) := match w with
  | .bl k => some (.ok (.bl !k) h)
  | _ => none
def oOwnNe (c : Nat) (nf : Nat → Bool) (mf : MF) : O2 := fun x y h => match x, y with
  | .ref i, .ref j => match h[i]?, h[j]? with
    | some (.ins c1 _), some (.ins c2 _) => if (decide (c1 = c) && nf c2) = true then bnd (noEx (mf [.ref i, .ref j] h)) notW else none
    | _, _ => none
  | _, _ => none
section
variable {G : Gm} {c : Nat} {nf : Nat → Bool} {mf : MF}
theorem oOwnEq_ok (hn : ∀ d, nf d = true → PySem.W.notFirst G.K (G.ca c) (.ref (G.ca d)) = true) : OpC G (oOwnEq c nf mf) (rOwnI G.K (G.ca c) (spM G 2 mf)) := fun E μ h H wx wy x y Q rel rx ry p => by
  unfold oOwnEq at p
  split at p
  · rename_i i j
    split at p
    · rename_i c1 f1 c2 f2 e1 e2
      split at p
      · rename_i hc
        simp only [Bool.and_eq_true, decide_eq_true_eq] at hc
        obtain ⟨rfl, hc2⟩ := hc
        have rx' := rx
        have ry' := ry
        simp only [RU] at rx' ry'
        obtain ⟨_, rfl⟩ := rx'
        obtain ⟨_, rfl⟩ := ry'
        obtain ⟨dx, gs, ea, _⟩ := rel.cell i _ e1
        obtain ⟨dy, gs2, eb, _⟩ := rel.cell j _ e2
        exact ⟨_, dx, gs, _, _, dy, gs2, rfl, rfl, ea, eb, hn c2 hc2, μ, h, [.ref i, .ref j], rel, RUs.cons rx (RUs.cons ry RUs.nil), rfl, p.noEx⟩
      · exact False.elim p
    · exact False.elim p
  · exact False.elim p
theorem oOwnNe_ok (hn : ∀ d, nf d = true → PySem.W.notFirst G.K (G.ca c) (.ref (G.ca d)) = true) : OpC G (oOwnNe c nf mf) (rNeI G.K (G.ca c) (spM G 2 mf)) := fun E μ h H wx wy x y Q rel rx ry p => by
  unfold oOwnNe at p
  split at p
  · rename_i i j
    split at p
    · rename_i c1 f1 c2 f2 e1 e2
      split at p
      · rename_i hc
        simp only [Bool.and_eq_true, decide_eq_true_eq] at hc
        obtain ⟨rfl, hc2⟩ := hc
        have rx' := rx
        have ry' := ry
        simp only [RU] at rx' ry'
        obtain ⟨_, rfl⟩ := rx'
        obtain ⟨_, rfl⟩ := ry'
        obtain ⟨dx, gs, ea, _⟩ := rel.cell i _ e1
        obtain ⟨dy, gs2, eb, _⟩ := rel.cell j _ e2
        refine ⟨_, dx, gs, _, _, dy, gs2, rfl, rfl, ea, eb, hn c2 hc2, μ, h, [.ref i, .ref j], rel, RUs.cons rx (RUs.cons ry RUs.nil), rfl, ?_⟩
        refine ((Post.bnd p).noEx).mono fun μ' h' H' w g q v rv => ?_
        unfold notW at q
        split at q
        · rename_i k
          simp only [RU] at rv
          exact ⟨k, rv, Post.ok g.rel q _ rfl⟩
        · exact False.elim q
      · exact False.elim p
    · exact False.elim p
  · exact False.elim p
end
/-- an own class with an own __eq__ -/
structure OwnEq (P : Program) (w : World) (G : Gm) (mg : Str → Option Value) (base : Heap) (k c : Nat) (nf : Nat → Bool) (mf : MF) : Prop where
  ex : ∃ f fd ps, PySem.W.findIn G.K (.ref (G.ca c)) "__eq__" = some (some (.ref f)) ∧ PySem.W.isFn G.K (.ref f) = true ∧ Binds G.K fd ps [] ∧ ps.length = 2 ∧ FnM P w G mg base k f fd ps mf
  ne : PySem.W.findIn G.K (.ref (G.ca c)) "__ne__" = some (some (.builtin "object.__ne__"))
  obj : PySem.W.subIn G.K (.ref (G.ca c)) (.type "object") = some true
  nf : ∀ d, nf d = true → PySem.W.notFirst G.K (G.ca c) (.ref (G.ca d)) = true
section
variable {X : Cx} {G : Gm} {Wx : WX} {a b : Expr} {pos : Pos} {ma mb : ME} {k j c : Nat} {nf : Nat → Bool} {mf : MF}
theorem dEqO (hG : X.K = G.K) (oe : OwnEq X.prog X.w G X.mg X.base k c nf mf) (hr : Room j X.A) (hk : k + 2 ≤ j) (ha : PE X a (tE G Wx ma)) (hb : PE X b (tE G Wx mb)) : PE X (.Compare a [.Eq] [b] pos) (tE G Wx (mOp (oOwnEq c nf mf) ma mb)) := by
  obtain ⟨f, fd, ps, h1, h2, hbd, hl, F⟩ := oe.ex
  have hn := oe.nf
  unfold FnM at F
  rw [hl] at F
  obtain ⟨K, ca⟩ := G
  subst hG
  exact (pe_cmpR (op_ownI (fun _ _ => rfl) h1 h2 F (hr.mono (by omega)) hbd fun σ => fun _ _ _ _ _ I h => by
    obtain ⟨_, _, H', cls, d, _, _, _, _, _, _, _, z⟩ := h
    exact z.elim) ha hb (nomark _)).weak (w_op (oOwnEq_ok hn))
theorem dNeO (hG : X.K = G.K) (oe : OwnEq X.prog X.w G X.mg X.base k c nf mf) (hr : Room j X.A) (hk : k + 2 ≤ j) (ha : PE X a (tE G Wx ma)) (hb : PE X b (tE G Wx mb)) : PE X (.Compare a [.NotEq] [b] pos) (tE G Wx (mOp (oOwnNe c nf mf) ma mb)) := by
  obtain ⟨f, fd, ps, h1, h2, hbd, hl, F⟩ := oe.ex
  have hn := oe.nf
  have h3 := oe.ne
  have h4 := oe.obj
  unfold FnM at F
  rw [hl] at F
  obtain ⟨K, ca⟩ := G
  subst hG
  exact (pe_cmpR (op_neI h3 h1 h2 h4 F (hr.mono hk) hbd) ha hb (nomark _)).weak (w_op (oOwnNe_ok hn))
end
end ML

set_option maxHeartbeats 4000000
/-! try with several clauses, each with a name; what is caught is tracked -/
namespace ML
open PySem PySem.Spec PyProof.Rows L2
def wManyT (K : PySem.W.Frag) (Wout : WX) (D : Ends) : List (Value × Nat × TS) → WX
  | [] => Wout
  | (c, i, ts) :: l => fun cls d σ H => ∃ b, PySem.W.exmOne K cls c = some b ∧
    (b = true → ∀ a, H a = none → ts { nx := fun σ' H' => D.nx (σ'.set i none) H', rt := D.rt, bk := fun σ' H' => D.bk (σ'.set i none) H', ct := fun σ' H' => D.ct (σ'.set i none) H' } (σ.set i (some (.ref a))) (upd H a (ExV cls d a))) ∧
    (b = false → wManyT K Wout D l cls d σ H)
inductive HdT (X : Cx) : List ExceptHandler → List (Value × Nat × TS) → Prop where
  | nil : HdT X [] []
  | cons {x n : Str} {c : Value} {i : Nat} {suite : List Stmt} {b₀ : Stmt} {np pos' : Pos} {hds : List ExceptHandler} {l : List (Value × Nat × TS)} {ts : TS} (hc : Names X x c) (hi : X.N[i]? = some n) (hln : X.env.kindOf n = some .local)
      (hsu : ∀ (a : Addr) (pn : List (Addr × Obj)), PSs (X.suite a pn) (b₀ :: suite) ts) (r : HdT X hds l) : HdT X (.ExceptHandler (some (.Name x np)) (some n) (b₀ :: suite) pos' :: hds) ((c, i, ts) :: l)
section
variable {X : Cx} {body : List Stmt} {pos : Pos} {tb : WX → TS} {Wout : WX} {hds : List ExceptHandler} {l : List (Value × Nat × TS)}
theorem ps_try_manyT {h₀ : ExceptHandler} (hs : X.stack = X.env :: X.outer) (hf : X.env.frame = some X.env.locals) (hex : X.ex = []) (hN : X.N.Nodup) (tk : Takes X Wout)
    (hb : ∀ (W : WX) (pn : List (Addr × Obj)) (xe : Value → Shared → Prop), Takes (X.tr pn xe) W → PassesOwn (model X.prog X.w) X.A X.env xe → PSs (X.tr pn xe) body (tb W)) (hh : HdT X (h₀ :: hds) l) :
    PS X (.Try body (h₀ :: hds) [] [] pos) (fun D σ H => tb (wManyT X.K Wout D l) D σ H) := by
  refine ⟨fun pins s σ H D I h => ?_⟩
  have ok := I.ok
  have hfr : X.A.frames = some (X.env :: X.outer) := by rw [ok.frames, hs]
  refine wpAny_Try_except ?_
  refine wpAny_mono ((hb (wManyT X.K Wout D l) (X.pn ++ pins) (fun e s₁ => wpAny (model X.prog X.w) X.A (noteFrame e X.env) (fun _ s₂ => wpAny (model X.prog X.w) X.A (setFlight e none) (fun _ s₃ =>
    wpAny (model X.prog X.w) X.A (handleBy e X.env (h₀ :: hds)) (SP X pins D) X.xe s₃) X.xe s₂) X.xe s₁) (fun u s' xx => ?_) PassesOwn.looking).run [] s σ H D (I.toTry _) h) (fun f s1 hsp => ?_) (fun e s1 he => he)
  · obtain ⟨a, B, sI, pins', σ', H', cls, d, rfl, J', nb, up, sky, na, os, ag, wish⟩ := xx
    have J : Inv X pins σ' H' sI := J'.ofTry ok
    have sky' : Sky B (X.env :: X.outer) a (Zc cls d) X.env.locals s'.heap := by rw [← hs]; exact sky
    show wpAny (model X.prog X.w) X.A (noteFrame (.ref a) X.env) _ _ _
    refine Sky.land Zc.steady hfr hf sky' fun h3 fl3 up3 => ?_
    have J3 : Inv X pins σ' H' { s' with heap := h3 } := J.landed nb fl3.1 (up.trans up3) os ag
    obtain ⟨oe3, vs3, he3, hz3, hd3⟩ := fl3.there
    have notFr : ∀ {h : Heap} {o : Obj} {vs : Array Value}, h.FunFrames B (X.env :: X.outer) → h.get? a = some o → o.data = .fields vs → a ∉ frs (X.env :: X.outer) := fun {h o vs} ff e dd hm => by
      obtain ⟨_, o', e', hnf⟩ := ff.mem hm
      rw [e] at e'; cases e'
      exact hnf _ dd
    have nfr := notFr fl3.2.2.1 he3 hd3
    have nL : a ≠ X.env.locals := fun z => nfr (List.mem_filterMap.mpr ⟨X.env, List.mem_cons_self, by rw [hf, z]⟩)
    have nF : a ∉ X.fs := fun hm => by
      obtain ⟨e, he, q⟩ := List.mem_filterMap.mp hm
      exact nfr (List.mem_filterMap.mpr ⟨e, List.mem_cons_of_mem _ he, q⟩)
    -- it is none of what stood before it was made
    have nI : sI.heap.get? a = none := by
      cases q : sI.heap.get? a with
      | none => rfl
      | some o =>
        have z := nb a o q (by rw [hs]; exact nfr)
        rw [fl3.2.1] at z
        cases z
    have n0 : X.s_0.heap.get? a = none := by
      cases q : X.s_0.heap.get? a with
      | none => rfl
      | some o =>
        obtain ⟨o', z⟩ := J.base.there a o q (by rw [hex]; exact fun z => nomatch z)
        rw [nI] at z
        cases z
    have nP : ∀ p ∈ X.pn ++ pins, p.1 ≠ a := fun p hp z => by
      have q := (J.pin p hp).1
      rw [z, nI] at q
      cases q
    have nC : ∀ x c, X.env.cells.lookup x = some c → c ≠ a := fun x c e z => by
      obtain ⟨v, o, q, _⟩ := J.cell x c e
      rw [z, nI] at q
      cases q
    have key : ∀ {hds : List ExceptHandler} {l : List (Value × Nat × TS)}, HdT X hds l → wManyT X.K Wout D l cls d σ' H' → wpAny (model X.prog X.w) X.A (handleBy (.ref a) X.env hds) (SP X pins D) X.xe { s' with heap := h3 } := by
      intro hds l hh
      induction hh with
      | nil =>
        intro wish
        refine wpAny_handleBy_nil ?_
        obtain ⟨k1, k2, k3, oe, vs, T, oT, ts', he, hz, hd, h1, hr⟩ := id fl3
        unfold PySem.passOn
        refine wpAny_bind (wpAny_field he hd h1 ?_)
        rw [if_neg (show ¬ ((Value.ref T == Value.none) = true) from by simp)]
        have fin : wpAny (model X.prog X.w) X.A (setFlight (.ref a) X.env.frame) (fun _ s4 => wpAny (model X.prog X.w) X.A (throw (.ref a) : Sem Flow) (SP X pins D) X.xe s4) X.xe { s' with heap := h3 } := by
          rw [hf]
          refine HandSPX.setFlight_upZ fl3 fun h4 hh4 up4 => wpAny_throw (tk _ _ ?_)
          exact ⟨a, B, sI, pins, σ', H', cls, d, rfl, J, nb, (up.trans up3).trans up4, .inr (.inr (by rw [hs]; exact hh4)), na, os, ag, wish⟩
        first
          | exact wpAny_bind (wpAny_pure (wpAny_bind fin))
          | exact wpAny_bind fin
      | cons hc hi hln hsu _ ih =>
        rename_i x n c i suite b₀ np pos' hds l ts _r
        intro wish
        obtain ⟨b, hb1, hyes, hno⟩ := wish
        have hloc : Loc X.env.scope n := .inl hln
        refine wpAny_handleBy_cons (codeAny_handlers_test ?_) (by intro q; cases q)
        have LT : PySem.W.Looks (model X.prog X.w) h3 (typeOf (.ref a)) cls := fun A Q E s k q => wpAny_typeOf_ref (k _ _ he3) (by rw [hz3.1]; exact q)
        have LM := PySem.W.exm_one (M := model X.prog X.w) (J3.kIn) LT hb1
        have S3 := J3.suite he3 hd3 na nL nF
        have test : ∀ {Q : Value → Shared → Prop} {E : Value → Shared → Prop}, Q c { s' with heap := h3 } → wpAny (model X.prog X.w) (X.A.mark (some (.ref a))) (eval (.Name x np) X.env) Q E { s' with heap := h3 } := fun {Q E} q => by
          obtain ⟨hg, hdbg, hm | ⟨hm, hv, hnn⟩⟩ := hc
          · exact ld_glob (X := X.suite a ((a, oe3) :: (X.pn ++ pins))) S3 hg hm q hdbg
          · exact ld_blt (X := X.suite a ((a, oe3) :: (X.pn ++ pins))) S3 hg hm hv q hnn hdbg
        refine test (LM.here ?_)
        cases b with
        | true =>
          refine codeAny_handlers_suite_as ?_
          refine HandSPX.lands_againZ fl3 fun h4 fl4 up4 => ?_
          have J4 : Inv X pins σ' H' { s' with heap := h4 } := J.landed nb fl4.1 ((up.trans up3).trans up4) os ag
          obtain ⟨oe4, vs4, he4, hz4, hd4⟩ := fl4.there
          have J5 := Inv.track (o := ExV cls d a) J4 na n0 nP nL nC (exv_ok he4 hz4 hd4)
          have S4 := Inv.suiteT J5 a
          refine store_ok (X := X.suite a (X.pn ++ pins)) (v := .ref a) S4 hN hi hloc rfl (fun s5 S5 => ?_) (.inr hln)
          refine wpAny_mono ((hsu a (X.pn ++ pins)).run [] s5 _ (upd H' a (ExV cls d a)) _ S5 (hyes rfl a na)) (fun f s6 hsp => ?_) (fun _ _ z => False.elim z)
          have end_ : ∀ {σ6 : L2.St} {H6 : Hp} {Q : Shared → Prop}, Inv (X.suite a (X.pn ++ pins)) [] σ6 H6 s6 → (∀ s7, Inv X pins (σ6.set i none) H6 s7 → Q s7) →
              wpAny (model X.prog X.w) X.A (do bindName X.env n .none; unbindBehindTheSuite X.env n pos') (fun _ s7 => Q s7) X.xe s6 := fun {σ6 H6 Q} S6 hq => gone_ok (Inv.unsuiteT S6 ok) hN hi hln hq
          cases f with
          | next =>
            obtain ⟨σ6, H6, S6, q6⟩ := hsp
            exact end_ S6 fun s7 J7 => ⟨_, _, J7, q6⟩
          | brk =>
            obtain ⟨σ6, H6, S6, q6⟩ := hsp
            exact end_ S6 fun s7 J7 => ⟨_, _, J7, q6⟩
          | cont =>
            obtain ⟨σ6, H6, S6, q6⟩ := hsp
            exact end_ S6 fun s7 J7 => ⟨_, _, J7, q6⟩
          | ret u =>
            obtain ⟨v6, σ6, H6, S6, r6, q6⟩ := hsp
            exact end_ S6 fun s7 J7 => ⟨_, _, _, J7, r6, q6⟩
        | false => exact ih (hno rfl)
    exact key hh wish
  · cases f with
    | next =>
      obtain ⟨σ', H', J', q⟩ := hsp
      exact wpAny_execs_nil ⟨σ', H', J'.ofTry ok, q⟩
    | brk =>
      obtain ⟨σ', H', J', q⟩ := hsp
      exact ⟨σ', H', J'.ofTry ok, q⟩
    | cont =>
      obtain ⟨σ', H', J', q⟩ := hsp
      exact ⟨σ', H', J'.ofTry ok, q⟩
    | ret u =>
      obtain ⟨v, σ', H', J', r, q⟩ := hsp
      exact ⟨v, σ', H', J'.ofTry ok, r, q⟩
end

end ML

set_option maxHeartbeats 4000000
/-! several clauses as a computation -/
namespace ML
open PySem L2
structure Row where
  tab : Nat → Option Bool
  i : Nat
  suite : MS
def catchN : List Row → Nat → List (Str × U) → Ev → Hm → Option Sz
  | [], c, fs, ρ, h => some (.ex c fs ρ h)
  | r :: l, c, fs, ρ, h => match r.tab c with
    | some true => match r.suite (ρ.set r.i (some (.ref h.length))) (h ++ [.exc c fs]) with
      | some (.ex _ _ _ _) => none
      | q => tryEnd r.i q
    | some false => catchN l c fs ρ h
    | none => none
def mTryN (l : List Row) (body : MS) : MS := fun ρ h => match body ρ h with
  | some (.ex c fs ρ1 h1) => catchN l c fs ρ1 h1
  | r => r
section
variable {G : Gm} {Wx : WX} {μ : Nat → Addr} {h : Hm} {H : Hp} {ρ : Ev} {σ : L2.St} {D : Ends}
/-- the clauses of the one and of the other -/
inductive RowsOk (G : Gm) : List Row → List (Value × Nat × TS) → Prop where
  | nil : RowsOk G [] []
  | cons {tab : Nat → Option Bool} {i : Nat} {suite : MS} {cv : Value} {l : List Row} {m : List (Value × Nat × TS)} (t : TakC G tab cv) (q : RowsOk G l m) : RowsOk G (⟨tab, i, suite⟩ :: l) ((cv, i, tS G (fun _ _ _ _ => False) suite) :: m)
theorem catch_ok {l : List Row} {m : List (Value × Nat × TS)} (q : RowsOk G l m) : ∀ {μ1 : Nat → Addr} {ρ1 : Ev} {h1 : Hm} {σ1 : L2.St} {H1 : Hp} {k : Nat} {fs : List (Str × U)} {cls : Value} {d : Option Addr}, StOk G μ1 ρ1 h1 σ1 H1 → RX G.K μ1 h1.length H1 G.ca k fs cls d →
    PostS G Wx D μ1 h1 H1 (catchN l k fs ρ1 h1) → wManyT G.K Wx D m cls d σ1 H1 := by
  induction q with
  | nil =>
    intro μ1 ρ1 h1 σ1 H1 k fs cls d s1 rx p
    exact p μ1 σ1 H1 cls d (Gr.refl s1.rel) s1 rx
  | cons t _ ih =>
    rename_i tab i suite cv l m _
    intro μ1 ρ1 h1 σ1 H1 k fs cls d s1 rx p
    unfold catchN at p
    obtain ⟨ecl, rx2⟩ := id rx
    cases et : tab k with
    | none => simp only [et] at p; exact False.elim p
    | some b =>
      simp only [et] at p
      refine ⟨b, by rw [ecl]; exact t k b et, fun hb a na => ?_, fun hb => ?_⟩
      · subst hb
        simp only at p
        have hn : RCell G (nu μ1 h1.length a) (h1.length + 1) (upd H1 a (ExV cls d a)) a (.exc k fs) := by
          refine ⟨cls, d, upd_same, ecl, ?_⟩
          rcases rx2 with z | ⟨dd, gs, e1, e2, z⟩
          · exact .inl z
          · exact .inr ⟨dd, gs, e1, by rw [upd_ne (ne_of_none e2 na)]; exact e2, RFs.mono (fun i hi => nu_old hi) (Nat.le_succ _) (TS0.fresh na) _ _ z⟩
        have g2 := Gr.new (o := ExV cls d a) (c := .exc k fs) s1.rel na hn
        have s2 := (s1.on g2).set (w := .ref h1.length) (v := .ref a) i (by simp only [RU]; exact ⟨by simp, by rw [nu_new]⟩)
        refine ⟨_, _, _, s2, ?_⟩
        cases e3 : suite (ρ1.set i (some (.ref h1.length))) (h1 ++ [.exc k fs]) with
        | none => rw [e3] at p; exact False.elim p
        | some r3 =>
          rw [e3] at p
          cases r3 with
          | nx ρ3 h3 => exact fun μ4 σ4 H4 g4 s4 => p μ4 _ H4 (g2.trans g4) (s4.unset i)
          | bk ρ3 h3 => exact fun μ4 σ4 H4 g4 s4 => p μ4 _ H4 (g2.trans g4) (s4.unset i)
          | ct ρ3 h3 => exact fun μ4 σ4 H4 g4 s4 => p μ4 _ H4 (g2.trans g4) (s4.unset i)
          | rt w h3 => exact fun μ4 H4 v g4 r4 => p μ4 H4 v (g2.trans g4) r4
          | ex k3 fs3 ρ3 h3 => exact False.elim p
      · subst hb
        exact ih s1 rx p
theorem w_tryN {l : List Row} {m : List (Value × Nat × TS)} {body : MS} (q : RowsOk G l m) : ∀ D σ H, tS G Wx (mTryN l body) D σ H → tS G (wManyT G.K Wx D m) body D σ H := fun D σ H ⟨μ, ρ, h, s, p⟩ => by
  refine ⟨μ, ρ, h, s, ?_⟩
  unfold mTryN at p
  cases e : body ρ h with
  | none => rw [e] at p; exact p
  | some r =>
    rw [e] at p
    cases r with
    | nx ρ1 h1 => exact p
    | rt w h1 => exact p
    | bk ρ1 h1 => exact p
    | ct ρ1 h1 => exact p
    | ex k fs ρ1 h1 =>
      intro μ1 σ1 H1 cls d g1 s1 rx
      exact catch_ok q s1 rx (PostS.on p g1)
end
section
variable {X : Cx} {G : Gm} {Wx : WX} {body : List Stmt} {pos : Pos} {h₀ : ExceptHandler} {hds : List ExceptHandler} {l : List Row} {m : List (Value × Nat × TS)} {mb : MS}
theorem dTryN (hG : X.K = G.K) (q : RowsOk G l m) (hs : X.stack = X.env :: X.outer) (hf : X.env.frame = some X.env.locals) (hex : X.ex = []) (hN : X.N.Nodup) (tk : Takes X Wx)
    (hb : ∀ (W : WX) (pn : List (Addr × Obj)) (xe : Value → Shared → Prop), Takes (X.tr pn xe) W → PassesOwn (model X.prog X.w) X.A X.env xe → PSs (X.tr pn xe) body (tS G W mb)) (hh : HdT X (h₀ :: hds) m) :
    PS X (.Try body (h₀ :: hds) [] [] pos) (tS G Wx (mTryN l mb)) := by
  have r := ps_try_manyT (pos := pos) (Wout := Wx) (tb := fun W => tS G W mb) hs hf hex hN tk hb hh
  rw [hG] at r
  exact r.weak (w_tryN q)
end
/-- isinstance(x, C) of instances of C -/
def tabI (c : Nat) : TyK → Option Bool
  | .ins k => if k = c then some true else none
  | _ => none
theorem tabI_some {c : Nat} {k : TyK} {b : Bool} (h : tabI c k = some b) : k = .ins c ∧ b = true := by
  unfold tabI at h
  split at h
  · split at h
    · rename_i e
      subst e
      exact ⟨rfl, (Option.some.inj h).symm⟩
    · exact absurd h (by simp)
  · exact absurd h (by simp)
theorem isi_ins {G : Gm} {c : Nat} {v : V} {u : Value} (cl : ClsV v u) (hk : PySem.W.kitOne G.K (.ref (G.ca c)) u = some true) (hi : InsK G.K (G.ca c)) : IsiC G (tabI c) v u := ⟨cl, (fun k b h => by
  obtain ⟨rfl, rfl⟩ := tabI_some h
  exact hk), (fun j b h => by
  obtain ⟨e, _⟩ := tabI_some h
  cases e
  exact hi), (fun j b h => by
  obtain ⟨e, _⟩ := tabI_some h
  cases e)⟩
theorem atI1 {G : Gm} {f : Str} {a : Nat} (h : Cls G.K (G.ca a) ∧ NoAttr G.K (G.ca a) f) : AtC G f (fun c => decide (c = a)) := fun c hc => by rw [of_decide_eq_true hc]; exact h
theorem atXI {G : Gm} {f : Str} {i e : Nat → Bool} (h : AtC G f i) (q : AtX G f (fun _ => false) e) : AtX G f i e := ⟨h, q.exc⟩
theorem kit_self {K : PySem.W.Frag} {C : Addr} : PySem.W.kitOne K (.ref C) (.ref C) = some true := by
  unfold PySem.W.kitOne
  rw [if_pos (by simp)]
theorem nf_self {K : PySem.W.Frag} {C : Addr} : PySem.W.notFirst K C (.ref C) = true := by
  unfold PySem.W.notFirst
  simp
end ML

set_option maxHeartbeats 4000000
/-! enumerate of a tuple -/
namespace ML
open PySem PySem.Spec PyProof.Rows L2
open Builtin
set_option maxHeartbeats 4000000 in
theorem meets_enum1 {v : Value} {o : Obj} {H : Heap → Prop} (B : Begins v o H) :
    Meets (Builtin.«enumerate.__new__» ⟨[.type "enumerate", v], []⟩) (fun _ R s => H s.heap ∧
      R (.ok (.ret (.ref (s.heap.push o).objs.size))) { s with heap := (s.heap.push o).push { cls := .type "enumerate", data := .fields #[.none, .bool false, .ref s.heap.objs.size, rawInt 0, .none, .none] } }) :=
  .of_wp fun prog w A R s h => by
    obtain ⟨hp, g, d, tk, os⟩ := s; obtain ⟨h1, h⟩ := h
    have hsub := sub_enumerate
    have q1 : ∀ {A' : Around} {E : Value → Shared → Prop} {Q : Value → Shared → Prop}, Q (.ref hp.objs.size) ⟨hp.push o, g, d, tk, os⟩ → wpAny (model prog w) A' (pyIter v) Q E ⟨hp, g, d, tk, os⟩ :=
      fun q => B.iter prog w _ _ ⟨hp, g, d, tk, os⟩ _ h1 q
    wp_walk using q1
    refine wpAny_stack_any fun st => wpAny_pure ?_
    split
    · rename_i c _ _ _ _ _
      cases (c == Value.type "enumerate")
      · wp_walk using q1
        exact ⟨_, rfl, h⟩
      · wp_walk using q1
        exact ⟨_, rfl, h⟩
    · wp_walk using q1
      exact ⟨_, rfl, h⟩
section
variable {prog : Program} {w : World} {A : Around} {E : Value → Shared → Prop} {s : Shared}
theorem enum1_begins {v : Value} {o : Obj} {H : Heap → Prop} {Q : Value → Shared → Prop} (B : Begins v o H) (h1 : H s.heap)
    (h : ∀ h', IsEnum h' (s.heap.objs.size + 1) s.heap.objs.size 0 .none → h'.get? s.heap.objs.size = some o → h'.objs.size = s.heap.objs.size + 2 →
      (∀ b o, s.heap.get? b = some o → h'.get? b = some o) → Q (.ref (s.heap.objs.size + 1)) { s with heap := h' }) :
    wpAny (model prog w) A (call (.type "enumerate") [v]) Q E s := by
  refine callType_new F.called_enumerate (by decide) (F.typeCall_enumerate_1 _) (F.newCall_enumerate_1 _) (fun obj => F.args_object_init_2 obj _) F.entry_enumerate_new
    (meets_enum1 B) ⟨h1, ?_⟩
  have hz : (s.heap.push o).objs.size = s.heap.objs.size + 1 := Heap.size_push ..
  show _ ∧ _
  rw [hz]
  have he : IsEnum ((s.heap.push o).push { cls := .type "enumerate", data := .fields #[.none, .bool false, .ref s.heap.objs.size, rawInt 0, .none, .none] }) (s.heap.objs.size + 1) s.heap.objs.size 0 .none := by
    have := Heap.get?_push_size (s.heap.push o) (o := { cls := .type "enumerate", data := .fields #[.none, .bool false, .ref s.heap.objs.size, rawInt 0, .none, .none] }) rfl
    rw [hz] at this; exact this
  refine ⟨⟨_, he, rfl⟩, h _ he (Heap.get?_push_of_some _ (Heap.get?_push_size _ B.free)) (by rw [Heap.size_push, hz]) fun b o x => Heap.get?_push_of_some _ (Heap.get?_push_of_some _ x)⟩
end
/-- the tuple at a, each item in a new pair -/
def IteT (K : PySem.W.Frag) (a : Addr) : It :=
  ⟨fun i H => ∃ (xs : List V) (x : V), SqT K H a xs ∧ xs[i]? = some x, fun i H v H' => ∃ T x, v = .ref T ∧ H T = none ∧ H' = upd H T (.tup [.int (i : Nat), x]) ∧ ∀ xs, SqT K H a xs → xs[i]? = some x, fun i H => ∃ xs : List V, SqT K H a xs ∧ xs.length ≤ i⟩
theorem turn_enumT {P : Program} {w : World} {K : PySem.W.Frag} {elts : List Expr} {kk : Nat} {tpos : Pos} (a e it : Addr) :
    Turn P w K (.Tuple elts kk tpos) (IteT K a) [e, it] e (fun i h => (∃ old, IsEnum h e it ((i : Nat) : Int) old) ∧ h.IsTupleIter it a i ∧ e ≠ it) where
  mem := by simp
  obj := fun i h st b hb => by
    obtain ⟨⟨old, he⟩, ⟨o, ho, hc, hd⟩, _⟩ := st
    have e' : b = e ∨ b = it := by simpa using hb
    rcases e' with z | z
    · rw [z]; exact ⟨_, he, fun v q => nomatch q⟩
    · rw [z]; exact ⟨o, ho, fun v q => by rw [hd] at q; cases q⟩
  keep := fun i h h' st k => let ⟨⟨old, he⟩, hi, hne⟩ := st; ⟨⟨old, k e (by simp) _ he⟩, hi.at fun o q => k it (by simp) o q, hne⟩
  item := by
    intro X hP hw hK hc i pins s σ H E I hf st hg
    subst hP hw hK
    obtain ⟨⟨old, he⟩, hit, hne⟩ := st
    obtain ⟨xs, x, hq, hx⟩ := hg
    obtain ⟨its, rv, p, hz⟩ := I.tuple hq
    have p' : s.heap.IsTuple a its.toArray := p
    obtain ⟨u, hu, ru⟩ := rv.get hx
    have hel : e < s.heap.objs.size := Heap.lt_size he
    have hil : it < s.heap.objs.size := by obtain ⟨_, q, _⟩ := hit; exact Heap.lt_size q
    have hl := rv.length
    have hlt : i < its.toArray.size := by
      have := (List.getElem?_eq_some_iff.mp hu).1
      simpa using this
    have hai : a ≠ it := by
      rintro rfl
      obtain ⟨o1, g1, c1, _⟩ := p'
      obtain ⟨o2, g2, c2, _⟩ := hit
      rw [g1] at g2; injection g2 with g2; subst g2; rw [c1] at c2; injection c2 with c2; exact absurd c2 (by decide)
    have hea : e ≠ a := by
      rintro rfl
      obtain ⟨o1, g1, c1, _⟩ := p'
      have g2 := he
      unfold IsEnum at g2
      rw [g1] at g2; injection g2 with g2; rw [g2] at c1; injection c1 with c1; exact absurd c1 (by decide)
    have D := Draws.tuple (prog := X.prog) (w := X.w) (A := X.A.in1) (show X.A.in1.handled = none from I.ok.hd hc) it a hai its.toArray
    refine wpAny_pyNext_enum_itemD D he ⟨hit, p'⟩ hlt hne (by simp [hne, hea]) fun x2 h' tk hP ho hst' hT hsz hk => ?_
    have ex2 : x2 = u := by
      have : its.toArray[i]? = some x2 := hP
      rw [List.getElem?_toArray, hu] at this
      cases this; rfl
    subst ex2
    refine ⟨_, rfl, wpAny_letOwnedTupleGo_enum (s := { s with heap := h', toks := tk + 1 }) ho fun h'' he' sb => ?_⟩
    have hT2 : h''.get? s.heap.objs.size = some { cls := .type "tuple", data := .seq #[.int i tk, x2] } := (sb.2 _ (Nat.ne_of_gt hel)).trans hT
    have new : ObjOk X.prog X.w (upd H s.heap.objs.size (.tup [.int (i : Nat), x])) h'' s.heap.objs.size (.tup [.int (i : Nat), x]) :=
      ⟨by show 2 ≤ sizeLine; decide, [.int i tk, x2], .cons ⟨_, rfl⟩ (.cons ru .nil), ⟨_, hT2, rfl, _, rfl⟩⟩
    have I1 : Inv X pins σ (upd H s.heap.objs.size (.tup [.int (i : Nat), x])) { s with heap := h'', toks := tk + 1 } :=
      I.turnedNew (ch := [e, it]) (fun b ob hb q => (sb.2 b (fun z => hb (by simp [z]))).trans (hk b ob (fun z => hb (by simp [z])) (fun z => hb (by simp [z])) q)) hf (Nat.le_refl _) new
    refine ⟨.ref s.heap.objs.size, _, I1, rfl, ⟨_, x, rfl, I.hok.fresh (Nat.le_refl _), rfl, fun ys hy => by rw [I.tuple_inj hy hq]; exact hx⟩, ⟨⟨x2, ?_⟩, hst'.1.at fun o q => (sb.2 it (Ne.symm hne)).trans q, hne⟩, fun b hb => ?_⟩
    · have e1 : ((i + 1 : Nat) : Int) = (i : Int) + 1 := by omega
      rw [e1]; exact he'
    · have hb' : b < s.heap.objs.size := by
        have e' : b = e ∨ b = it := by simpa using hb
        rcases e' with z | z
        · rw [z]; exact hel
        · rw [z]; exact hil
      rw [upd_ne (Nat.ne_of_lt hb')]
      exact (hf b hb).1
  done := by
    intro X hP hw hK hc i pins s σ H E I hf st hg
    subst hP hw hK
    obtain ⟨⟨old, he⟩, hit, hne⟩ := st
    obtain ⟨xs, hq, hx⟩ := hg
    obtain ⟨its, rv, p, hz⟩ := I.tuple hq
    have p' : s.heap.IsTuple a its.toArray := p
    obtain ⟨f0, f1, f2, f3, f4, f5⟩ := hf it (by simp)
    have hl := rv.length
    have D : ∀ (s' : Shared) (Q : Value → Shared → Prop) (E : Value → Shared → Prop), s'.heap.IsTupleIter it a i → s'.heap.IsTuple a its.toArray →
        (∀ h' e, Heap.ExtBut it s'.heap h' → (∃ o, h'.get? e = some o ∧ o.cls = .type "StopIteration") → E (.ref e) { s' with heap := h' }) → wpAny (model X.prog X.w) X.A.in1 (Builtin.SmallTypes.nextOf (.ref it)) Q E s' := fun s' Q E h1 h2 h3 =>
      wpAny_nextOf_tuple_end (show X.A.in1.handled = none from I.ok.hd hc) h1 h2 (by simp; omega) h3
    have hT : s.TypeIs (.ref e) "enumerate" := ⟨_, he, rfl⟩
    unfold pyNext
    refine wpAny_bind (wpAny_attempt (wpAny_callSpecial?_slot (name := Str.ofString "__next__") hT F.slot_enumerate_next
      (wpAny_call_entry F.slot_enumerate_next hT F.entry_enumerate_next ?_ (F.args_enumerate_next_1 _))))
    show wpAny _ _ (field (.ref e) 2 >>= _) _ _ _
    refine wpAny_bind (wpAny_field he rfl (x := .ref it) rfl ?_)
    refine wpAny_bind (D _ _ _ hit p' fun h' x he' hx' => ?_)
    obtain ⟨o, ho, hc'⟩ := hx'
    refine wpAny_bind (wpAny_isInstance (T := "StopIteration") (b := true) ⟨o, ho, hc'⟩ isSubtype_stop ?_)
    exact wpAny_pure ⟨rfl, I.turned (t' := s.toks) (fun b o hb q => he' b o hb q) f0 f1 f3 f4 f5⟩
  self := fun A i s Q E st h => let ⟨⟨_, he⟩, _⟩ := st; wpAny_pyIter_enum he h
def iEnumT (K : PySem.W.Frag) (ta : TA) : TI := fun σ H R => ta σ H fun vs H1 => ∃ a xs, vs = [.ref a] ∧ SqT K H1 a xs ∧ R (IteT K a) H1
theorem pi_enumT {X : Cx} {e : Expr} {ta : TA} {p pos tpos : Pos} {elts : List Expr} {kk : Nat} (hg : Gl X "enumerate") (hm : X.mg "enumerate" = none) (ha : PA X [e] ta) (hs : starEach [e] X.env = [(false, eval e X.env)] := by rfl) :
    PI X (.Tuple elts kk tpos) (.Call (.Name "enumerate" p) [e] [] pos) (iEnumT X.K ta) := by
  refine ⟨fun pins s σ H R I h => ?_⟩
  refine Call_ (ld_blt I hg hm boot_enumerate (PyProof.Rows.callWith_type1 (thn (ha.run pos pins s σ H _ I h) fun us s1 ⟨vs, H1, I1, r1, q1⟩ => ?_) hs rfl))
  obtain ⟨a, xs, ex, hq, q⟩ := q1
  subst ex
  cases r1 with
  | cons r rr =>
    cases rr
    cases r
    obtain ⟨its, rv, p', hz⟩ := I1.tuple hq
    have p'' : s1.heap.IsTuple a its.toArray := p'
    refine enum1_begins (begins_tuple a its.toArray) p'' fun h' he hit hsz hk => wpAny_pyIter_enum he ?_
    have I2 : Inv X pins σ H1 { s1 with heap := h' } := I1.kept (t' := s1.toks) hk
    refine ⟨s1.heap.objs.size + 1, [s1.heap.objs.size + 1, s1.heap.objs.size], _, _, H1, rfl, I2, turn_enumT a (s1.heap.objs.size + 1) s1.heap.objs.size, ⟨⟨.none, he⟩, ⟨_, hit, rfl, rfl⟩, Nat.succ_ne_self _⟩, fun b hb => ?_, q⟩
    have e' : b = s1.heap.objs.size + 1 ∨ b = s1.heap.objs.size := by simpa using hb
    have hle : s1.heap.objs.size ≤ b := by
      rcases e' with z | z
      · rw [z]; exact Nat.le_add_right _ _
      · rw [z]; exact Nat.le_refl _
    exact I1.fpOk hle (I1.hok.fresh hle)

section
variable {G : Gm} {Wx : WX} {μ μ' : Nat → Addr} {h h' : Hm} {H H' : Hp} {ρ : Ev} {σ : L2.St}
theorem gives_enum {i : Nat} {ws : List U} {c : Cell} (hc : c = .lst ws ∨ c = .frz ws) (hi : i < h.length) : Gives G (Ite G.K (μ i)) (eItems 0 ws) (fun h => h[i]? = some c) μ h H := by
  intro j μ2 h2 H2 gr ck
  have em : μ2 i = μ i := gr.mu i hi
  have e2 : h2[i]? = some (.lst ws) ∨ h2[i]? = some (.frz ws) := by
    rcases hc with rfl | rfl
    · exact .inl ck
    · exact .inr ck
  obtain ⟨xs, sq, rs⟩ := rz_sqL gr.rel e2
  rw [em] at sq
  refine ⟨fun hj => ⟨xs, sq, by rw [RUs.length rs]; rw [eItems_len] at hj; exact hj⟩, fun w hw => ?_⟩
  rw [eItems_get] at hw
  cases ew : ws[j]? with
  | none => rw [ew] at hw; cases hw
  | some w0 =>
    rw [ew] at hw
    simp only [Option.map_some, Option.some.injEq, Nat.zero_add] at hw
    subst hw
    obtain ⟨v, ev, rv⟩ := RUs.get rs ew
    refine ⟨⟨xs, v, sq, ev⟩, fun x H' y => ?_⟩
    obtain ⟨T, x0, rfl, nT, rfl, hx⟩ := y
    have := hx xs sq
    rw [ev] at this
    cases this
    have g := Gr.fresh (o := .tup [.int (j : Nat), v]) gr.rel nT
    exact ⟨g, ru_tup (.inl (.inl upd_same)) (RUs.cons (by simp only [RU]) (RUs.cons (g.ru rv) RUs.nil))⟩
theorem gives_enumT {a : Addr} {xs : List V} {ws : List U} (st : SqT G.K H a xs) (rs : RUs G.K μ h.length H ws xs) : Gives G (IteT G.K a) (eItems 0 ws) (fun _ => True) μ h H := by
  intro j μ2 h2 H2 gr ck
  have sq := gr.tup a xs st
  have rs := gr.rus rs
  refine ⟨fun hj => ⟨xs, sq, by rw [RUs.length rs]; rw [eItems_len] at hj; exact hj⟩, fun w hw => ?_⟩
  rw [eItems_get] at hw
  cases ew : ws[j]? with
  | none => rw [ew] at hw; cases hw
  | some w0 =>
    rw [ew] at hw
    simp only [Option.map_some, Option.some.injEq, Nat.zero_add] at hw
    subst hw
    obtain ⟨v, ev, rv⟩ := RUs.get rs ew
    refine ⟨⟨xs, v, sq, ev⟩, fun x H' y => ?_⟩
    obtain ⟨T, x0, rfl, nT, rfl, hx⟩ := y
    have := hx xs sq
    rw [ev] at this
    cases this
    have g := Gr.fresh (o := .tup [.int (j : Nat), v]) gr.rel nT
    exact ⟨g, ru_tup (.inl (.inl upd_same)) (RUs.cons (by simp only [RU]) (RUs.cons (g.ru rv) RUs.nil))⟩
theorem w_iEn {e : ME} : ∀ σ H R, tI G Wx (iEn e) σ H R → iEnum G.K (tCons (tE G Wx e) tNil) σ H R := fun σ H R ⟨μ, ρ, h, s, p⟩ =>
  ⟨μ, ρ, h, s, (Post.bnd p).mono fun μ1 h1 H1 w g q v r => by
    cases w with
    | ref i =>
      simp only at q
      simp only [RU] at r
      obtain ⟨hi, rfl⟩ := r
      cases ec : h1[i]? with
      | none => rw [ec] at q; exact False.elim q
      | some c =>
        rw [ec] at q
        cases c with
        | lst ws =>
          obtain ⟨xs, sq, rs⟩ := rz_sqL g.rel (.inl ec)
          exact ⟨μ1 i, xs, rfl, sq, q μ1 H1 (Gr.refl g.rel) _ (gives_enum (.inl rfl) hi)⟩
        | frz ws =>
          obtain ⟨xs, sq, rs⟩ := rz_sqL g.rel (.inr ec)
          exact ⟨μ1 i, xs, rfl, sq, q μ1 H1 (Gr.refl g.rel) _ (gives_enum (.inr rfl) hi)⟩
        | ins _ _ => exact False.elim q
        | exc _ _ => exact False.elim q
    | _ => exact False.elim q⟩
def iEnT (e : ME) : MI := fun ρ h => bnd (e ρ h) fun w h1 => match w with
  | .tup ws => some (.ok (eItems 0 ws, fun _ => True) h1)
  | _ => none
theorem w_iEnT {e : ME} : ∀ σ H R, tI G Wx (iEnT e) σ H R → iEnumT G.K (tCons (tE G Wx e) tNil) σ H R := fun σ H R ⟨μ, ρ, h, s, p⟩ =>
  ⟨μ, ρ, h, s, (Post.bnd p).mono fun μ1 h1 H1 w g q v r => by
    cases w with
    | tup ws =>
      simp only at q
      simp only [RU] at r
      obtain ⟨a, xs, rfl, st, rs⟩ := r
      exact ⟨a, xs, rfl, st, q μ1 H1 (Gr.refl g.rel) _ (gives_enumT st rs)⟩
    | _ => exact False.elim q⟩
/-- enumerate of a list or a tuple -/
def iEnA (e : ME) : MI := fun ρ h => match e ρ h with
  | some (.ok (.tup _) _) => iEnT e ρ h
  | _ => iEn e ρ h
end
section
variable {X : Cx} {G : Gm} {Wx : WX} {e : Expr} {ma : ME} {p pos tpos : Pos} {elts : List Expr} {kk : Nat} {x : Str}
theorem iEnum' (hG : X.K = G.K) (hx : x = "enumerate") (h : PE X e (tE G Wx ma)) (hg : X.env.kindOf x = some .globalImplicit) (hm : X.mg x = none) (hs1 : starEach [e] X.env = (false, eval e X.env) :: starEach [] X.env) (hs : starEach [e] X.env = [(false, eval e X.env)]) : PI X (.Tuple elts kk tpos) (.Call (.Name x p) [e] [] pos) (tI G Wx (iEnA ma)) := by
  subst hx
  have r1 := pi_enum (X := X) (p := p) (pos := pos) (tpos := tpos) (elts := elts) (kk := kk) hg hm (pa_cons h pa_nil hs1) hs
  have r2 := pi_enumT (X := X) (p := p) (pos := pos) (tpos := tpos) (elts := elts) (kk := kk) hg hm (pa_cons h pa_nil hs1) hs
  rw [hG] at r1 r2
  have r1 := r1.weak w_iEn
  have r2 := r2.weak w_iEnT
  refine ⟨fun pins s σ H R I ⟨μ, ρ, hm, st, p⟩ => ?_⟩
  unfold iEnA at p
  split at p
  · exact r2.run pins s σ H R I ⟨μ, ρ, hm, st, p⟩
  · exact r1.run pins s σ H R I ⟨μ, ρ, hm, st, p⟩
end
end ML

set_option maxHeartbeats 4000000
/-! defs by what they are passed: star parameters, defaults; their calls -/
namespace ML
open PySem L2
def spR (G : Gm) (f : MF) : Sp := fun vs H Q E => ∃ μ h ws, HRel G μ h H ∧ RUs G.K μ h.length H ws vs ∧ Post G (PV G Q) E μ h H (f ws h)
abbrev FnRM (P : Program) (w : World) (G : Gm) (mg : Str → Option Value) (base : Heap) (k : Nat) (f : Addr) (m : MF) : Prop := FnR P w G.K mg base (L2.CX P w) k f (spR G m)
/-- what is left over is a tuple -/
def starOf (n : Nat) (f : MF) : MF := fun ws h => if n ≤ ws.length ∧ ws.length ≤ LIM then f (ws.take n ++ [.tup (ws.drop n)]) h else none
section
variable {P : Program} {w : World} {G : Gm} {mg : Str → Option Value} {base : Heap}
theorem fn_MS {x qual pv : Str} {st : Stmt} {f : Addr} {fd : FuncData} {N ps : List Str} {k : Nat} {m : MS} (F : Fun G.K x qual st f fd) (S : FnScope N (ps ++ [pv]) (defScope st))
    (hb : ∀ (kV doc pm : Value) (an : Option Addr) (cdv ct : Value) (us rest : List Value), us.length = ps.length → bindArgs (PySem.W.fnOf x qual (defArgs st) (defBody st) (defScope st) .none kV doc pm an cdv ct) ⟨us ++ rest, []⟩ = (newTuple rest >>= fun t => pure (ps.zip us ++ [(pv, t)])))
    (hbody : ∀ (cdv : Value) (A : Around) (outer : List Env) (s : Shared) (H : Hp) (E : XK), Room k (A.deeper (PyProof.Rows.envOfC qual (defScope st) s.heap.objs.size f cdv)) →
      Takes (cxOf (L2.CX P w) P w G.K mg base N qual (defScope st) f cdv A outer s H E) (wDef E) →
      PSs (cxOf (L2.CX P w) P w G.K mg base N qual (defScope st) f cdv A outer s H E) (defBody st) (tS G (wDef E) m)) :
    FnRM P w G mg base (k + 1) f (starOf ps.length (mfun (ps.length + 1) N.length m)) := by
  obtain ⟨oc, od, kV, doc, pm, an, cdv, ct, osl, rfl, lk, hcd⟩ := F.ex
  have z := StX.fn_star (sp := spM G (ps.length + 1) (mfun (ps.length + 1) N.length m)) (k := k) (CX := L2.CX P w) (P := P) (w := w) (mg := mg) (base := base) lk hcd S StX.cxUp (hb kV doc pm an cdv ct) (fun A outer s H vs Q E hr hsp => ⟨_, hbody cdv A outer s H E hr (takes_of rfl rfl rfl rfl), ?_⟩)
  · refine z.imp fun vs H Q E ⟨μ, h, ws, rel, rs, p⟩ => ?_
    unfold starOf at p
    split at p
    · rename_i hl
      have hlen := RUs.length rs
      refine ⟨vs.take ps.length, vs.drop ps.length, (List.take_append_drop _ _).symm, by simp; omega, ?_, fun q hq => ?_⟩
      · rw [List.length_drop]; exact Nat.le_trans (Nat.sub_le _ _) (lim_le (by rw [hlen]; exact hl.2))
      · have g := Gr.fresh (o := .tup (vs.drop ps.length)) rel hq
        have r1 := (RUs.take ps.length rs)
        have r2 := (RUs.drop ps.length rs)
        refine ⟨μ, h, _, g.rel, (g.rus r1).append (RUs.cons (ru_tup (.inl (.inl upd_same)) (g.rus r2)) RUs.nil), by simp; omega, p.on g⟩
    · exact False.elim p
  · obtain ⟨μ, h, ws, rel, rs, hl, p⟩ := hsp
    refine ⟨μ, _, h, st_start rel rs hl, ?_⟩
    unfold mfun at p
    have hw : ws.length = ps.length + 1 := by rw [← RUs.length rs]; exact hl
    rw [if_pos hw] at p
    cases e : m (ws.map some ++ List.replicate (N.length - (ps.length + 1)) none) h with
    | none => rw [e] at p; exact p
    | some r =>
      rw [e] at p
      cases r with
      | nx ρ' h1 => exact fun μ' σ' H' g s' => p μ' H' g _ rfl
      | rt w h1 => exact fun μ' H' v g r => p μ' H' g v r
      | bk ρ' h1 => exact False.elim p
      | ct ρ' h1 => exact False.elim p
      | ex c fs ρ' h1 => exact fun μ' σ' H' cls d g s' rx => p μ' H' cls d g rx
end
/-! ### calls by such promises -/
def tMakeRS (C : Addr) (sp : Sp) (E : St → XK) (t : TA) : TE := fun σ H Q => t σ H fun vs H1 => ∀ x dx, H1 x = Option.none → H1 dx = Option.none → dx ≠ x →
  sp (V.ref x :: vs) (upd (upd H1 dx (.own x)) x (.ins C dx [])) (fun v H2 => v = .non ∧ Q (.ref x) H2) (E σ)
section
variable {X : Cx} {CX : CXT} {k : Nat} {f C : Addr} {sp : Sp} {E : St → XK} {x : Str} {e : Expr} {es : List Expr} {t : TA} {p pos : Pos}
theorem run_makeRS {pins : List (Addr × Obj)} {σ : L2.St} {H : Hp} {s : Shared} {Q : VK} {us : List Value} {vs : List V} (M : Mk X.K C f) (F : FnR X.prog X.w X.K X.mg X.base CX k f sp) (hr : Room (k + 1) X.A) (hx : PassesAt CX X σ (E σ)) (I : Inv X pins σ H s) (r : Vals vs us)
    (h : ∀ x dx, H x = Option.none → H dx = Option.none → dx ≠ x → sp (V.ref x :: vs) (upd (upd H dx (.own x)) x (.ins C dx [])) (fun v H2 => v = .non ∧ Q (.ref x) H2) (E σ)) :
    wpAny (model X.prog X.w) X.A (call (.ref C) us) (EP X pins σ Q) X.xe s := by
  have hq := h (s.heap.objs.size + 1) s.heap.objs.size (I.hok.fresh (Nat.le_succ _)) (I.hok.fresh (Nat.le_refl _)) (Nat.ne_of_lt (Nat.lt_succ_self _))
  have I2 := Inv.made (C := C) I
  have r2 : Vals (V.ref (s.heap.objs.size + 1) :: vs) (Value.ref (s.heap.objs.size + 1) :: us) := .cons rfl r
  refine wpAny_call (make_map (f := f) I.kIn M.makes M.init (beq_iff_eq.mp M.fn) (codeAny_mono (F _ X.stack _ _ (Value.ref (s.heap.objs.size + 1) :: us) _ _ (E σ) (hr.make C us []) (I2.env0.make C us []) r2 hq) fun r s' hq' => ?_))
  cases r with
  | error e => exact hx pins _ _ e s' I2 hq'
  | ok fl =>
    cases fl with
    | ret u =>
      obtain ⟨v, H', I3, rv, ev, q3⟩ := I2.after hq'
      subst ev
      exact ⟨rv, ⟨V.ref (s.heap.objs.size + 1), H', I3, rfl, q3⟩⟩
    | next => exact False.elim hq'
    | brk => exact False.elim hq'
    | cont => exact False.elim hq'
theorem pe_makeRS (M : Mk X.K C f) (F : FnR X.prog X.w X.K X.mg X.base CX k f sp) (hr : Room (k + 1) X.A) (hg : Gl X x) (hm : X.mg x = some (.ref C)) (hx : ∀ σ, PassesAt CX X σ (E σ)) (ha : PA X (e :: es) t) (hdb : (x == ("__debug__" : Str)) = false)
    (he : starEach (e :: es) X.env = (false, eval e X.env) :: starEach es X.env) (hpl : (backTo pos (starEach es X.env)).any (·.1) = false) : PE X (.Call (.Name x p) (e :: es) [] pos) (tMakeRS C sp E t) := by
  refine ⟨fun pins s σ H Q I h => ?_⟩
  refine wpAny_Call_Name_kw (ld_glob I hg hm ?_ hdb)
  refine PySem.W.callWith_K (h₀ := X.base) I.ok.mod.kin M.kp (thn (ha.run pos pins s σ H _ I h) fun us s1 ⟨vs, H1, I1, r, q⟩ => ⟨I1.kIn, ?_⟩) he hpl
  exact run_makeRS M F hr (hx σ) I1 r q
theorem run_fnRS {pins : List (Addr × Obj)} {σ : L2.St} {H : Hp} {s : Shared} {Q : VK} {us : List Value} {vs : List V} (F : FnR X.prog X.w X.K X.mg X.base CX k f sp) (hr : Room k X.A) (hx : PassesAt CX X σ (E σ)) (I : Inv X pins σ H s) (r : Vals vs us)
    (h : sp vs H Q (E σ)) : wpAny (model X.prog X.w) X.A (call (.ref f) us) (EP X pins σ Q) X.xe s := by
  refine wpAny_call (codeAny_mono (F X.A X.stack s H us vs Q (E σ) hr I.env0 r h) fun r s' hq => ?_)
  cases r with
  | error e => exact hx pins H s e s' I hq
  | ok fl =>
    cases fl with
    | ret u => exact I.after hq
    | next => exact False.elim hq
    | brk => exact False.elim hq
    | cont => exact False.elim hq
theorem pe_callRS (F : FnR X.prog X.w X.K X.mg X.base CX k f sp) (hr : Room k X.A) (hg : Gl X x) (hm : X.mg x = some (.ref f)) (hk : PySem.W.keepIn X.K (.ref f) = true) (hx : ∀ σ, PassesAt CX X σ (E σ)) (ha : PA X (e :: es) t) (hdb : (x == ("__debug__" : Str)) = false)
    (he : starEach (e :: es) X.env = (false, eval e X.env) :: starEach es X.env) (hpl : (backTo pos (starEach es X.env)).any (·.1) = false) : PE X (.Call (.Name x p) (e :: es) [] pos) (tCallS sp E t) := by
  refine ⟨fun pins s σ H Q I h => ?_⟩
  refine wpAny_Call_Name_kw (ld_glob I hg hm ?_ hdb)
  refine PySem.W.callWith_K (h₀ := X.base) I.ok.mod.kin hk (thn (ha.run pos pins s σ H _ I h) fun us s1 ⟨vs, H1, I1, r, q⟩ => ⟨I1.kIn, ?_⟩) he hpl
  exact run_fnRS F hr (hx σ) I1 r q
end
section
variable {G : Gm} {Wx : WX} {μ μ' : Nat → Addr} {h h' : Hm} {H H' : Hp} {ρ : Ev} {σ : L2.St}
theorem w_callR {f : MF} {es : MA} : ∀ σ H Q, tE G Wx (mCB f es) σ H Q → tCallS (spR G f) (WE Wx) (tA G Wx es) σ H Q := fun σ H Q ⟨μ, ρ, h, s, p⟩ =>
  ⟨μ, ρ, h, s, (Post.bnd p).mono fun μ1 h1 H1 ws g q vs rs => ⟨μ1, h1, ws, g.rel, rs, q⟩⟩
theorem w_makeR {c : Nat} {f : MF} {es : MA} : ∀ σ H Q, tE G Wx (mMake c f es) σ H Q → tMakeRS (G.ca c) (spR G f) (WE Wx) (tA G Wx es) σ H Q := fun σ H Q ⟨μ, ρ, h, s, p⟩ =>
  ⟨μ, ρ, h, s, (Post.bnd p).mono fun μ1 h1 H1 ws g q vs rs x dx nx nd ne => by
    have g1 : Gr G μ1 h1 H1 μ1 h1 (upd H1 dx (.own x)) := Gr.fresh g.rel nd
    have nx' : upd H1 dx (.own x) x = none := by rw [upd_ne ne.symm]; exact nx
    have g2 := Gr.new (o := .ins (G.ca c) dx []) (c := .ins c []) g1.rel nx' ⟨dx, [], upd_same, by simp only [RFs]⟩
    have gg := g1.trans g2
    refine ⟨_, h1 ++ [.ins c []], .ref h1.length :: ws, gg.rel, RUs.cons (by simp only [RU]; exact ⟨by simp, by rw [nu_new]⟩) (gg.rus rs), ?_⟩
    have q : Post G (PV G Q) (fun cls d H' => Wx cls d σ H') (nu μ1 h1.length x) (h1 ++ [.ins c []]) (upd (upd H1 dx (.own x)) x (.ins (G.ca c) dx [])) (bnd (f (.ref h1.length :: ws) (h1 ++ [.ins c []])) (mkEnd h1.length)) := by
      have q' : Post G (PV G Q) (fun cls d H' => Wx cls d σ H') μ1 h1 H1 (bnd (f (.ref h1.length :: ws) (h1 ++ [.ins c []])) (mkEnd h1.length)) := q
      exact q'.on gg
    have q2 := Post.bnd q
    cases er : f (.ref h1.length :: ws) (h1 ++ [.ins c []]) with
    | none => rw [er] at q2; exact q2
    | some r =>
      rw [er] at q2
      cases r with
      | ok w h3 =>
        intro μ' H' g' v rv
        have q3 := q2 μ' H' g'
        cases w with
        | non =>
          simp only [RU] at rv
          subst rv
          refine ⟨rfl, Post.ok g'.rel q3 _ ?_⟩
          simp only [RU]
          have hl : h1.length < (h1 ++ [Cell.ins c []]).length := by simp
          exact ⟨Nat.lt_of_lt_of_le hl g'.len, by rw [g'.mu _ hl, nu_new]⟩
        | _ => exact False.elim q3
      | ex c fs h3 => exact q2⟩
end
/-- a def by what it is passed -/
structure CalleeR (P : Program) (w : World) (G : Gm) (mg : Str → Option Value) (base : Heap) (x : Str) (k : Nat) (m : MF) : Prop where
  ex : ∃ a, mg x = some (.ref a) ∧ PySem.W.keepIn G.K (.ref a) = true ∧ FnRM P w G mg base k a m
structure OwnClsR (P : Program) (w : World) (G : Gm) (mg : Str → Option Value) (base : Heap) (x : Str) (k c : Nat) (m : MF) : Prop where
  gl : mg x = some (.ref (G.ca c))
  ex : ∃ fI, Mk G.K (G.ca c) fI ∧ FnRM P w G mg base k fI m
section
variable {X : Cx} {G : Gm} {Wx : WX} {e : Expr} {es : List Expr} {x : Str} {pos p : Pos} {mas : MA}
theorem dCallR {k j : Nat} {m : MF} (hG : X.K = G.K) (cl : CalleeR X.prog X.w G X.mg X.base x k m) (hr : Room j X.A) (hk : k ≤ j) (tk : Takes X Wx) (ha : PA X (e :: es) (tA G Wx mas)) (hg : X.env.kindOf x = some .globalImplicit) (hd : (x == ("__debug__" : Str)) = false) (so : StarOk X pos e es) :
    PE X (.Call (.Name x p) (e :: es) [] pos) (tE G Wx (mCB m mas)) := by
  obtain ⟨a, hm, kp, F⟩ := cl.ex
  obtain ⟨K, ca⟩ := G
  subst hG
  exact (pe_callRS F (hr.mono hk) hg hm kp (passAt tk) ha hd so.s so.p).weak w_callR
theorem dMakeR {k j c : Nat} {mf : MF} (hG : X.K = G.K) (oc : OwnClsR X.prog X.w G X.mg X.base x k c mf) (hr : Room j X.A) (hk : k + 1 ≤ j) (tk : Takes X Wx) (ha : PA X (e :: es) (tA G Wx mas)) (hg : X.env.kindOf x = some .globalImplicit) (hd : (x == ("__debug__" : Str)) = false) (so : StarOk X pos e es) :
    PE X (.Call (.Name x p) (e :: es) [] pos) (tE G Wx (mMake c mf mas)) := by
  obtain ⟨fI, M, F⟩ := oc.ex
  have gl := oc.gl
  obtain ⟨K, ca⟩ := G
  subst hG
  exact (pe_makeRS M F (hr.mono hk) hg gl (passAt tk) ha hd so.s so.p).weak w_makeR
end
end ML

set_option maxHeartbeats 4000000
/-! targets of several names; rows turned about -/
namespace ML
open PySem L2
section
variable {G : Gm} {Wx : WX} {μ μ' : Nat → Addr} {h h' : Hm} {H H' : Hp} {ρ : Ev} {σ : L2.St}
def mPar2 (i j : Nat) (es : MA) : MS := fun ρ h => bndS ρ (es ρ h) fun ws h1 => match ws with
  | [w, u] => some (.nx ((ρ.set i (some w)).set j (some u)) h1)
  | _ => none
theorem w_par2 {i j : Nat} {es : MA} : ∀ D σ H, tS G Wx (mPar2 i j es) D σ H → tPar i j (tA G Wx es) D σ H := fun D σ H ⟨μ, ρ, h, s, p⟩ =>
  ⟨μ, ρ, h, s, (PostS.bnd s p).mono fun μ1 h1 H1 ws g q vs rs => by
    split at q
    · simp only [RUs] at rs
      obtain ⟨v, _, rfl, r1, u, _, rfl, r2, rfl⟩ := rs
      exact ⟨v, u, rfl, q μ1 _ H1 (Gr.refl g.rel) (((s.on g).set i r1).set j r2)⟩
    · exact False.elim q⟩
def mPar3 (i j l : Nat) (es : MA) : MS := fun ρ h => bndS ρ (es ρ h) fun ws h1 => match ws with
  | [w, u, x] => some (.nx (((ρ.set i (some w)).set j (some u)).set l (some x)) h1)
  | _ => none
theorem w_par3 {i j l : Nat} {es : MA} : ∀ D σ H, tS G Wx (mPar3 i j l es) D σ H → tPar3 i j l (tA G Wx es) D σ H := fun D σ H ⟨μ, ρ, h, s, p⟩ =>
  ⟨μ, ρ, h, s, (PostS.bnd s p).mono fun μ1 h1 H1 ws g q vs rs => by
    split at q
    · simp only [RUs] at rs
      obtain ⟨v, _, rfl, r1, u, _, rfl, r2, y, _, rfl, r3, rfl⟩ := rs
      exact ⟨v, u, y, rfl, q μ1 _ H1 (Gr.refl g.rel) ((((s.on g).set i r1).set j r2).set l r3)⟩
    · exact False.elim q⟩
def mRevL (e : ME) : ME := fun ρ h => bnd (e ρ h) fun w h1 => match w with
  | .ref i => match rd h1 i with
    | some ws => some (.ok (.ref h1.length) (h1 ++ [.lst ws.reverse]))
    | none => none
  | _ => none
theorem RUs.reverse {K : PySem.W.Frag} {n : Nat} : ∀ {ws : List U} {xs : List V}, RUs K μ n H ws xs → RUs K μ n H ws.reverse xs.reverse
  | [], xs, r => by simp only [RUs] at r; subst r; exact RUs.nil
  | w :: ws, xs, r => by
    simp only [RUs] at r
    obtain ⟨y, ys, rfl, r1, rs⟩ := r
    rw [List.reverse_cons, List.reverse_cons]
    exact (RUs.reverse rs).append (RUs.cons r1 RUs.nil)
theorem w_revL {e : ME} : ∀ σ H Q, tE G Wx (mRevL e) σ H Q → tRevL G.K (tE G Wx e) σ H Q := fun σ H Q ⟨μ, ρ, h, s, p⟩ =>
  ⟨μ, ρ, h, s, (Post.bnd p).mono fun μ1 h1 H1 wx g q x rx => by
    cases wx with
    | ref i =>
      simp only [RU] at rx
      obtain ⟨hi, rfl⟩ := rx
      simp only at q
      split at q
      · rename_i ws er
        obtain ⟨xs, sq, rs⟩ := rd_ok g.rel er
        refine ⟨_, xs, rfl, sq, fun l nl => ?_⟩
        have gD := Gr.new (o := .lst xs.reverse) (c := .lst ws.reverse) g.rel nl ⟨_, upd_same, RUs.mono (fun i hi => nu_old hi) (Nat.le_succ _) (TS0.fresh nl) _ _ rs.reverse⟩
        refine q _ _ gD _ ?_
        simp only [RU]
        exact ⟨by simp, by rw [nu_new]⟩
      · exact False.elim q
    | _ => exact False.elim q⟩
end
section
variable {X : Cx} {G : Gm} {Wx : WX} {e a b c : Expr} {es : List Expr} {x y z : Str} {pos p px py pz pt pt2 p1 p2 p3 : Pos} {ma : ME} {mas : MA} {kt k2 : Nat}
theorem dPar2 {i j : Nat} (hc : X.calm = true) (hN : X.N.Nodup) (hi : X.N[i]? = some x) (hj : X.N[j]? = some y) (hij : i ≠ j) (hx : X.env.scope.names.lookup x = some .local) (hy : X.env.scope.names.lookup y = some .local) (ha : PA X [a, b] (tA G Wx mas))
    (hw : swappedStores [.Tuple [.Name x px, .Name y py] kt pt] (.Tuple [a, b] k2 pt2) X.env = pure (some [x, y]))
    (hs : swapsWithSole [.Tuple [.Name x px, .Name y py] kt pt] (.Tuple [a, b] k2 pt2) pos.line X.env = pure false) :
    PS X (.Assign [.Tuple [.Name x px, .Name y py] kt pt] (.Tuple [a, b] k2 pt2) pos) (tS G Wx (mPar2 i j mas)) := (ps_par hc hN hi hj hij hx hy ha hw hs).weak w_par2
theorem dPar3 {i j l : Nat} (hc : X.calm = true) (hN : X.N.Nodup) (hi : X.N[i]? = some x) (hj : X.N[j]? = some y) (hl : X.N[l]? = some z) (hij : i ≠ j) (hil : i ≠ l) (hjl : j ≠ l)
    (hx : X.env.scope.names.lookup x = some .local) (hy : X.env.scope.names.lookup y = some .local) (hz : X.env.scope.names.lookup z = some .local) (ha : PA X [a, b, c] (tA G Wx mas))
    (hw : swappedStores [.Tuple [.Name x px, .Name y py, .Name z pz] kt pt] (.Tuple [a, b, c] k2 pt2) X.env = pure (some [x, y, z]))
    (hs : swapsWithSole [.Tuple [.Name x px, .Name y py, .Name z pz] kt pt] (.Tuple [a, b, c] k2 pt2) pos.line X.env = pure false) :
    PS X (.Assign [.Tuple [.Name x px, .Name y py, .Name z pz] kt pt] (.Tuple [a, b, c] k2 pt2) pos) (tS G Wx (mPar3 i j l mas)) := (ps_par3 hc hN hi hj hl hij hil hjl hx hy hz ha hw hs).weak w_par3
theorem dRevL {k : Nat} (hG : X.K = G.K) (he : PE X e (tE G Wx ma)) : PE X (.Subscript e (.Slice none none (some (.UnaryOp .USub (.Constant (.int 1) k p1) p2)) p3) pos) (tE G Wx (mRevL ma)) := by
  have r := pe_revL (k := k) (p1 := p1) (p2 := p2) (p3 := p3) (pos := pos) he
  rw [hG] at r
  exact r.weak w_revL
theorem gTupD {g : MGs} {n k : Nat} (hG : X.K = G.K) (hc : X.calm = true) (h : PGs X es (tGs G g)) (hn : (assignEach es X.env).length = n) (hst : (assignEach es X.env).findIdx? (·.1) = none) : PG X (.Tuple es k pos) (tG G (gT n g)) := by
  have r := pg_tup (k := k) (pos := pos) hc h hn hst
  rw [hG] at r
  exact r.weak w_gT
theorem gConsD {g : MG} {gs : MGs} (h1 : PG X e (tG G g)) (h2 : PGs X es (tGs G gs)) (hs : (assignEach (e :: es) X.env).map (·.2) = assign e X.env :: (assignEach es X.env).map (·.2)) : PGs X (e :: es) (tGs G (gC g gs)) := (pgs_cons h1 h2 hs).weak w_gC
end
end ML

set_option maxHeartbeats 4000000
/-! single steps of the computations, as facts -/
namespace ML
open PySem L2
section
variable {e a b : ME} {es : MA} {ρ ρ1 : Ev} {h h1 h2 h3 : Hm} {w x y : U} {ws : List U}
theorem cons_e (e1 : e ρ h = some (.ok w h1)) (e2 : es ρ h1 = some (.ok ws h2)) : mCons e es ρ h = some (.ok (w :: ws) h2) := by
  unfold mCons; rw [e1]; simp [e2]
theorem nil_e : mNil ρ h = some (.ok [] h) := rfl
theorem tup_e (e : es ρ h = some (.ok ws h1)) (hl : ws.length ≤ LIM) : mTup es ρ h = some (.ok (.tup ws) h1) := by
  unfold mTup; rw [e]; simp [hl]
theorem lst_e (e : es ρ h = some (.ok ws h1)) (hl : ws.length ≤ LIM) : mLst es ρ h = some (.ok (.ref h1.length) (h1 ++ [.lst ws])) := by
  unfold mLst; rw [e]; simp [hl]
theorem op_e {f : O2} {r : Option (Rz U)} (e1 : a ρ h = some (.ok x h1)) (e2 : b ρ h1 = some (.ok y h2)) (e3 : f x y h2 = r) : mOp f a b ρ h = r := by
  unfold mOp; rw [e1]; simp only [bnd_ok]; rw [e2]; exact e3
theorem var_e {i : Nat} (e : ρ[i]? = some (some w)) : mVar i ρ h = some (.ok w h) := by
  unfold mVar; rw [e]
theorem c_e : mC w ρ h = some (.ok w h) := rfl
theorem neg_e {k : Int} (e1 : e ρ h = some (.ok (.int k) h1)) : mNeg e ρ h = some (.ok (.int (-k)) h1) := by
  unfold mNeg; rw [e1]; rfl
theorem cb_e {f : MF} {r : Option (Rz U)} (e1 : es ρ h = some (.ok ws h1)) (e2 : f ws h1 = r) : mCB f es ρ h = r := by
  unfold mCB; rw [e1]; exact e2
theorem cons_x {c : Nat} {fs : List (Str × U)} (e1 : e ρ h = some (.ex c fs h1)) : mCons e es ρ h = some (.ex c fs h1) := by
  unfold mCons; rw [e1]; rfl
theorem cons_x2 {c : Nat} {fs : List (Str × U)} (e1 : e ρ h = some (.ok w h1)) (e2 : es ρ h1 = some (.ex c fs h2)) : mCons e es ρ h = some (.ex c fs h2) := by
  unfold mCons; rw [e1]; simp [e2]
theorem cb_x {f : MF} {c : Nat} {fs : List (Str × U)} (e1 : es ρ h = some (.ex c fs h1)) : mCB f es ρ h = some (.ex c fs h1) := by
  unfold mCB; rw [e1]; rfl
theorem tst_e {f : O2} {k : Bool} (e1 : a ρ h = some (.ok x h1)) (e2 : b ρ h1 = some (.ok y h2)) (e3 : f x y h2 = some (.ok (.bl k) h3)) : mB (mOp f a b) ρ h = some (.ok k h3) := by
  unfold mB; rw [op_e e1 e2 e3]; rfl
theorem b_e {k : Bool} (e1 : e ρ h = some (.ok (.bl k) h1)) : mB e ρ h = some (.ok k h1) := by
  unfold mB; rw [e1]; rfl
theorem not_e {t : MT} {k : Bool} (e1 : t ρ h = some (.ok k h1)) : mTNot t ρ h = some (.ok (!k) h1) := by
  unfold mTNot; rw [e1]; rfl
theorem or_t {t u : MT} (e1 : t ρ h = some (.ok true h1)) : mTOr t u ρ h = some (.ok true h1) := by
  unfold mTOr; rw [e1]; rfl
theorem or_f {t u : MT} {r : Option (Rz Bool)} (e1 : t ρ h = some (.ok false h1)) (e2 : u ρ h1 = r) : mTOr t u ρ h = r := by
  unfold mTOr; rw [e1]; simp only [bnd_ok]; rw [if_neg (by decide)]; exact e2
theorem and_f {t u : MT} (e1 : t ρ h = some (.ok false h1)) : mTAnd t u ρ h = some (.ok false h1) := by
  unfold mTAnd; rw [e1]; rfl
theorem and_t {t u : MT} {r : Option (Rz Bool)} (e1 : t ρ h = some (.ok true h1)) (e2 : u ρ h1 = r) : mTAnd t u ρ h = r := by
  unfold mTAnd; rw [e1]; simp only [bnd_ok]; rw [if_pos trivial]; exact e2
theorem isn_e {neg : Bool} (e1 : e ρ h = some (.ok x h1)) : mIsN neg e ρ h = some (.ok (.bl (isNon x != neg)) h1) := by
  unfold mIsN; rw [e1]; rfl
theorem isn_b {neg k : Bool} (e1 : e ρ h = some (.ok x h1)) (hk : (isNon x != neg) = k) : mB (mIsN neg e) ρ h = some (.ok k h1) := by
  subst hk; exact b_e (isn_e e1)
theorem ifE_t {t : MT} {r : Option (Rz U)} (e1 : t ρ h = some (.ok true h1)) (e2 : a ρ h1 = r) : mIfE t a b ρ h = r := by
  unfold mIfE; rw [e1]; simp only [bnd_ok]; rw [if_pos trivial]; exact e2
theorem ifE_f {t : MT} {r : Option (Rz U)} (e1 : t ρ h = some (.ok false h1)) (e2 : b ρ h1 = r) : mIfE t a b ρ h = r := by
  unfold mIfE; rw [e1]; simp only [bnd_ok]; rw [if_neg (by decide)]; exact e2
theorem sl_e {f : OS} {lo hi : MO} {l u : Option Int} {r : Option (Rz U)} (e1 : e ρ h = some (.ok x h1)) (e2 : lo ρ h1 = some (.ok l h2)) (e3 : hi ρ h2 = some (.ok u h3)) (e4 : f x l u h3 = r) : mSl f e lo hi ρ h = r := by
  unfold mSl; rw [e1]; simp only [bnd_ok]; rw [e2]; simp only [bnd_ok]; rw [e3]; exact e4
theorem no_e : mNoPart ρ h = some (.ok none h) := rfl
theorem part_e {k : Int} (e1 : e ρ h = some (.ok (.int k) h1)) : mPart e ρ h = some (.ok (some k) h1) := by
  unfold mPart; rw [e1]; rfl
/-! statements -/
theorem set_s {i : Nat} (e1 : e ρ h = some (.ok w h1)) : mSet i e ρ h = some (.nx (ρ.set i (some w)) h1) := by
  unfold mSet; rw [e1]; rfl
theorem asg_s {g : MG} (e1 : e ρ h = some (.ok w h1)) (e2 : g w ρ = some ρ1) : mAsg g e ρ h = some (.nx ρ1 h1) := by
  unfold mAsg; rw [e1]; simp only [bndS_ok]; rw [e2]
theorem drop_s (e1 : e ρ h = some (.ok w h1)) : mDrop e ρ h = some (.nx ρ h1) := by
  unfold mDrop; rw [e1]; rfl
theorem drop_x {c : Nat} {fs : List (Str × U)} (e1 : e ρ h = some (.ex c fs h1)) : mDrop e ρ h = some (.ex c fs ρ h1) := by
  unfold mDrop; rw [e1]; rfl
theorem ret_s (e1 : e ρ h = some (.ok w h1)) : mRet e ρ h = some (.rt w h1) := by
  unfold mRet; rw [e1]; rfl
theorem ret_x {c : Nat} {fs : List (Str × U)} (e1 : e ρ h = some (.ex c fs h1)) : mRet e ρ h = some (.ex c fs ρ h1) := by
  unfold mRet; rw [e1]; rfl
theorem if_t {c : MT} {s t : MS} (e : c ρ h = some (.ok true h1)) : mIf c s t ρ h = s ρ h1 := by
  unfold mIf; rw [e]; rfl
theorem if_f {c : MT} {s t : MS} (e : c ρ h = some (.ok false h1)) : mIf c s t ρ h = t ρ h1 := by
  unfold mIf; rw [e]; rfl
theorem seq_n {s t : MS} (e : s ρ h = some (.nx ρ1 h1)) : mSeq s t ρ h = t ρ1 h1 := by unfold mSeq; rw [e]
theorem seq_x {s t : MS} {c : Nat} {fs : List (Str × U)} (e : s ρ h = some (.ex c fs ρ1 h1)) : mSeq s t ρ h = some (.ex c fs ρ1 h1) := by unfold mSeq; rw [e]
theorem seq_r {s t : MS} (e : s ρ h = some (.rt w h1)) : mSeq s t ρ h = some (.rt w h1) := by unfold mSeq; rw [e]
theorem skip_s : mSkip ρ h = some (.nx ρ h) := rfl
/-! a def's end -/
theorem fun_r {n N : Nat} {body : MS} (hl : ws.length = n) (e : body (ws.map some ++ List.replicate (N - n) none) h = some (.rt w h1)) : mfun n N body ws h = some (.ok w h1) := by
  unfold mfun; rw [if_pos hl, e]
theorem fun_n {n N : Nat} {body : MS} (hl : ws.length = n) (e : body (ws.map some ++ List.replicate (N - n) none) h = some (.nx ρ1 h1)) : mfun n N body ws h = some (.ok .non h1) := by
  unfold mfun; rw [if_pos hl, e]
theorem fun_x {n N : Nat} {body : MS} {c : Nat} {fs : List (Str × U)} (hl : ws.length = n) (e : body (ws.map some ++ List.replicate (N - n) none) h = some (.ex c fs ρ1 h1)) : mfun n N body ws h = some (.ex c fs h1) := by
  unfold mfun; rw [if_pos hl, e]
/-! heaps -/
theorem app_at {H : Hm} {r : Nat} {x : Cell} (e : Hm) (hc : H[r]? = some x) : (H ++ e)[r]? = some x := by
  rw [List.getElem?_append_left (List.getElem?_eq_some_iff.mp hc).1]; exact hc
theorem lst_at {l : Nat} {us : List U} (e : h[l]? = some (.lst us)) : rd h l = some us := ev_rdL e
theorem add_l {i j : Nat} {xs ys : List U} (hi : h[i]? = some (.lst xs)) (hj : h[j]? = some (.lst ys)) (hl : xs.length + ys.length ≤ LIM) : oAdd (.ref i) (.ref j) h = some (.ok (.ref h.length) (h ++ [.lst (xs ++ ys)])) := by
  unfold oAdd
  simp only [oI0, oAddS, oAddL, hi, hj]
  rw [if_pos hl]
theorem cut_l {L : Nat} {xs : List U} {lo hi : Option Int} (e : h[L]? = some (.lst xs)) : oSl (.ref L) lo hi h = some (.ok (.ref h.length) (h ++ [.lst (cut xs lo hi)])) := by
  unfold oSl oSlS oSlL
  simp [rd, e]
theorem cut_hi {xs : List U} (k : Nat) : cut xs none (some (k : Int)) = xs.take k := by
  unfold cut
  rw [HT.sIx_nat, HT.sIx_none]
  simp
theorem cut_lo {xs : List U} (k : Nat) : cut xs (some (k : Int)) none = xs.drop k := by
  unfold cut
  rw [HT.sIx_nat, HT.sIx_none]
  by_cases h : k ≤ xs.length
  · rw [Nat.min_eq_left h, List.take_of_length_le (by simp)]
  · rw [Nat.min_eq_right (by omega), List.drop_of_length_le (Nat.le_refl _), List.drop_of_length_le (by omega)]
    simp
theorem cut_lo' {xs : List U} (k : Nat) (hk : 0 < k) : cut xs (some (-(k : Int))) none = xs.drop (xs.length - k) := by
  unfold cut
  rw [HT.sIx_none]
  unfold HT.sIx
  simp only
  rw [if_pos (by omega), show (-(k : Int) + (xs.length : Int)).toNat = xs.length - k by omega]
  rw [List.take_of_length_le (by simp)]
theorem cut_hi' {xs : List U} (k : Nat) (hk : 0 < k) : cut xs none (some (-(k : Int))) = xs.take (xs.length - k) := by
  unfold cut
  rw [HT.sIx_none]
  unfold HT.sIx
  simp only
  rw [if_pos (by omega), show (-(k : Int) + (xs.length : Int)).toNat = xs.length - k by omega]
  simp
/-- the k-th of a row -/
theorem ix_at {us : List U} {k : Nat} {i : Int} (hi : i = (k : Int)) (e : us[k]? = some w) : atI us i = some w := by
  subst hi
  have hk := (List.getElem?_eq_some_iff.mp e).1
  unfold atI ixN
  rw [if_pos (by omega), if_pos (by omega)]
  simpa using e
theorem ix_l {us : List U} {L k : Nat} {i : Int} (eL : h[L]? = some (.lst us)) (hi : i = (k : Int)) (e : us[k]? = some w) : oIx (.ref L) (.int i) h = some (.ok w h) := ev_ix (ev_rdL eL) (ix_at hi e)
theorem ix_last {us : List U} {L : Nat} (eL : h[L]? = some (.lst (us ++ [w]))) : oIx (.ref L) (.int (-1)) h = some (.ok w h) := by
  refine ev_ix (ev_rdL eL) ?_
  unfold atI ixN
  rw [if_neg (by omega), if_pos (by simp; omega)]
  simp only [Option.bind_some]
  rw [show (-1 + ((us ++ [w]).length : Int)).toNat = us.length by simp; omega]
  simp
theorem len_l {us : List U} {L : Nat} (eL : h[L]? = some (.lst us)) : fLen [.ref L] h = some (.ok (.int us.length) h) := ev_len (ev_rdL eL)
theorem app_l {us : List U} {L : Nat} (e1 : a ρ h = some (.ok (.ref L) h1)) (e2 : b ρ h1 = some (.ok w h2)) (eL : h2[L]? = some (.lst us)) (hl : us.length < LIM) (hk : kList (.ref L) h1 = true) : mBM kList fAppend a (mCons b mNil) ρ h = some (.ok .non (h2.set L (.lst (us ++ [w])))) := by
  unfold mBM
  rw [e1]
  simp only [bnd_ok, hk, if_true]
  rw [cons_e e2 nil_e]
  simp [fAppend, eL, hl]
theorem klist {us : List U} {L : Nat} (eL : h[L]? = some (.lst us)) : kList (.ref L) h = true := by simp [kList, eL]
theorem set_end {c d : Cell} {L : Nat} (hL : L = h.length) : (h ++ [c]).set L d = h ++ [d] := by
  subst hL
  rw [List.set_append_right _ _ (Nat.le_refl _)]
  simp
/-! loops -/
theorem for_e {it : MI} {g : MG} {s : MS} {us : List U} {chk : Hm → Prop} {r : Option Sz} (e1 : it ρ h = some (.ok (us, chk) h1)) (e2 : forC chk g s us ρ h1 = r) : mFor it g s ρ h = r := by
  unfold mFor; rw [e1]; exact e2
theorem it_r1 {n : Int} (e1 : e ρ h = some (.ok (.int n) h1)) (h0 : -1000000000 ≤ n) (hn : n ≤ 1000000000) : iR1 e ρ h = some (.ok (rItems 0 n.toNat, fun _ => True) h1) := by
  unfold iR1; rw [e1]; simp [h0, hn]
theorem it_r2 {i j : Int} (e1 : a ρ h = some (.ok (.int i) h1)) (e2 : b ρ h1 = some (.ok (.int j) h2)) (i0 : -1000000000 ≤ i) (i1 : i ≤ 1000000000) (j0 : -1000000000 ≤ j) (j1 : j ≤ 1000000000) : iR2 a b ρ h = some (.ok (rItems i (j - i).toNat, fun _ => True) h2) := by
  unfold iR2; rw [e1]; simp only [bnd_ok]; rw [e2]; simp [i0, i1, j0, j1]
theorem it_l {us : List U} {L : Nat} (e1 : e ρ h = some (.ok (.ref L) h1)) (eL : h1[L]? = some (.lst us)) : iSeq e ρ h = some (.ok (us, fun h => h[L]? = some (.lst us)) h1) := by
  unfold iSeq iL; rw [e1]; simp [eL]
theorem it_el {us : List U} {L : Nat} (e1 : e ρ h = some (.ok (.ref L) h1)) (eL : h1[L]? = some (.lst us)) : iEnA e ρ h = some (.ok (eItems 0 us, fun h => h[L]? = some (.lst us)) h1) := by
  unfold iEnA iEn; rw [e1]; simp [eL]
theorem it_et {us : List U} (e1 : e ρ h = some (.ok (.tup us) h1)) : iEnA e ρ h = some (.ok (eItems 0 us, fun _ => True) h1) := by
  unfold iEnA iEnT; rw [e1]; simp
theorem it_t {us : List U} (e1 : e ρ h = some (.ok (.tup us) h1)) : iSeq e ρ h = some (.ok (us, fun _ => True) h1) := by
  unfold iSeq iT; rw [e1]; simp
theorem rItems_succ (lo : Int) (n : Nat) : rItems lo (n + 1) = .int lo :: rItems (lo + 1) n := by
  unfold rItems
  rw [List.range_succ_eq_map]
  simp only [List.map_cons, List.map_map]
  congr 1
  · simp
  · refine List.map_congr_left fun j _ => ?_
    simp only [Function.comp]
    congr 1
    omega
theorem rItems_zero (lo : Int) : rItems lo 0 = [] := rfl
end
section
variable {i j : Int} {h : Hm} {n : Nat}
theorem le_t (q : i ≤ j) : oLe (.int i) (.int j) h = some (.ok (.bl true) h) := by show some (Rz.ok (U.bl (decide (i ≤ j))) h) = _; rw [decide_eq_true q]
theorem le_f (q : ¬ i ≤ j) : oLe (.int i) (.int j) h = some (.ok (.bl false) h) := by show some (Rz.ok (U.bl (decide (i ≤ j))) h) = _; rw [decide_eq_false q]
theorem lt_t (q : i < j) : oLt (.int i) (.int j) h = some (.ok (.bl true) h) := by show some (Rz.ok (U.bl (decide (i < j))) h) = _; rw [decide_eq_true q]
theorem lt_f (q : ¬ i < j) : oLt (.int i) (.int j) h = some (.ok (.bl false) h) := by show some (Rz.ok (U.bl (decide (i < j))) h) = _; rw [decide_eq_false q]
theorem ge_t (q : i ≥ j) : oGe (.int i) (.int j) h = some (.ok (.bl true) h) := by show some (Rz.ok (U.bl (decide (j ≤ i))) h) = _; rw [decide_eq_true q]
theorem ge_f (q : ¬ i ≥ j) : oGe (.int i) (.int j) h = some (.ok (.bl false) h) := by show some (Rz.ok (U.bl (decide (j ≤ i))) h) = _; rw [decide_eq_false q]
theorem gt_t (q : i > j) : oGt (.int i) (.int j) h = some (.ok (.bl true) h) := by show some (Rz.ok (U.bl (decide (j < i))) h) = _; rw [decide_eq_true q]
theorem gt_f (q : ¬ i > j) : oGt (.int i) (.int j) h = some (.ok (.bl false) h) := by show some (Rz.ok (U.bl (decide (j < i))) h) = _; rw [decide_eq_false q]
theorem eq_t (q : i = j) : oEq n (.int i) (.int j) h = some (.ok (.bl true) h) := by rw [ev_eqI, decide_eq_true q]
theorem eq_f (q : i ≠ j) : oEq n (.int i) (.int j) h = some (.ok (.bl false) h) := by rw [ev_eqI, decide_eq_false q]
theorem ne_t (q : i ≠ j) : oNe n (.int i) (.int j) h = some (.ok (.bl true) h) := by rw [ev_neI, decide_eq_false q]; rfl
theorem ne_f (q : i = j) : oNe n (.int i) (.int j) h = some (.ok (.bl false) h) := by rw [ev_neI, decide_eq_true q]; rfl
end
theorem attr_x {f : Str} {a b : Nat → Bool} {c j : Nat} {fs : List (Str × U)} {e : ME} {ρ : Ev} {h h1 : Hm} {w : U} (e1 : e ρ h = some (.ok (.ref j) h1)) (e2 : h1[j]? = some (.exc c fs)) (hb : b c = true) (hf : fget f fs = some w) : mAttrX f a b e ρ h = some (.ok w h1) := by
  unfold mAttrX; rw [e1]; simp only [bnd_ok, e2, hb, hf, if_true]
theorem attr_i {f : Str} {a b : Nat → Bool} {c j : Nat} {fs : List (Str × U)} {e : ME} {ρ : Ev} {h h1 : Hm} {w : U} (e1 : e ρ h = some (.ok (.ref j) h1)) (e2 : h1[j]? = some (.ins c fs)) (hb : a c = true) (hf : fget f fs = some w) : mAttrX f a b e ρ h = some (.ok w h1) := by
  unfold mAttrX; rw [e1]; simp only [bnd_ok, e2, hb, hf, if_true]
end ML

set_option maxHeartbeats 4000000
/-! rising maps by rows: the arithmetic, without Python -/
namespace RM
abbrev Row := Int × Int × Bool
/-- the value of a row at a minute -/
def rv (r : Row) (m : Int) : Int := if r.2.2 then r.2.1 + m - r.1 else r.2.1
/-- what is known while minutes are looked at -/
structure S where
  done : List Row
  b : Int
  f : Int
  st : Option Int
  la : Int
def stp (s : S) (m v : Int) : S :=
  if s.st = none ∧ (v - s.la = 0 ∨ v - s.la = 1) then { s with st := some (v - s.la), la := v }
  else if s.st ≠ some (v - s.la) then ⟨s.done ++ [(s.b, s.f, decide (s.st = some 1))], m, v, none, v⟩
  else { s with la := v }
/-- minutes lo, lo + 1, .., n of them -/
def runV (val : Int → Int) : Int → Nat → S → S
  | _, 0, s => s
  | lo, n + 1, s => runV val (lo + 1) n (stp s lo (val lo))
def afterOf : List Row → Row → Int
  | [], r => r.1 + 3
  | n :: _, _ => n.1
/-- one row -/
def runR (r : Row) (after : Int) (s : S) : S :=
  let lo := if r.1 ≥ 1 then r.1 else 1
  let hi := if after ≤ r.1 + 3 then after else r.1 + 3
  { runV (rv r) lo (hi - lo).toNat s with la := rv r (after - 1) }
def runRs : List Row → S → S
  | [], s => s
  | r :: rs, s => runRs rs (runR r (afterOf rs r) s)
def fin (s : S) : List Row := s.done ++ [(s.b, s.f, true)]
def short : List Row → List Row
  | [] => []
  | r :: rs => fin (runRs (r :: rs) ⟨[], 0, r.2.1, none, r.2.1⟩)
theorem stp_len (s : S) (m v : Int) : (stp s m v).done.length ≤ s.done.length + 1 := by
  unfold stp
  split
  · simp
  · split <;> simp
theorem runV_len {val : Int → Int} : ∀ (n : Nat) (lo : Int) (s : S), (runV val lo n s).done.length ≤ s.done.length + n
  | 0, _, _ => Nat.le_refl _
  | n + 1, lo, s => by
    have h1 := runV_len n (lo + 1) (stp s lo (val lo)) (val := val)
    have h2 := stp_len s lo (val lo)
    unfold runV
    omega
theorem runR_len (r : Row) (after : Int) (s : S) : (runR r after s).done.length ≤ s.done.length + 3 := by
  unfold runR
  simp only
  refine Nat.le_trans (runV_len _ _ _) ?_
  split <;> split <;> omega
/-- may stand behind -/
def fol (b r : Row) : Prop := b.1 < r.1 ∧ r.1 - 1 ≤ rv b (r.1 - 1) ∧ rv b (r.1 - 1) ≤ r.2.1
instance (b r : Row) : Decidable (fol b r) := by unfold fol; infer_instance
/-- right rows behind the row b -/
def GoodFrom : Row → List Row → Prop
  | b, [] => b.2.2 = true
  | b, r :: rs => fol b r ∧ r.1 ≤ r.2.1 ∧ GoodFrom r rs
def Good : List Row → Prop
  | [] => False
  | r :: rs => r.1 = 0 ∧ 0 ≤ r.2.1 ∧ GoodFrom r rs
/-- the value behind the row b -/
def valF : Row → List Row → Int → Int
  | b, [], t => rv b t
  | b, r :: rs, t => if t < r.1 then rv b t else valF r rs t
def val : List Row → Int → Int
  | [], t => t
  | r :: rs, t => valF r rs t
end RM

set_option maxHeartbeats 4000000
/-! xs[i::-1] -/
namespace ML
open PySem PySem.Spec PyProof.Rows L2
def revFrom (n : Nat) (v : Int) : Nat := (max (-1) (min (if v < 0 then v + n else v) ((n : Int) - 1)) + 1).toNat
theorem pick_rev (items : Array Value) (v : Int) : slicePick items (some v) none (some (-1)) = (items.toList.take (revFrom items.size v)).reverse.toArray := by
  unfold slicePick
  have hb : sliceBounds (some v) none (some (-1)) items.size = (((revFrom items.size v : Nat) : Int) - 1, -1, -1) := by
    unfold sliceBounds revFrom
    simp
    omega
  rw [hb]
  show ((sliceRange (((revFrom items.size v : Nat) : Int) - 1) (-1) (-1)).filterMap (items[·]?)).toArray = _
  rw [PySem.W.krv_sliceRange, PySem.W.krv_range, List.filterMap_reverse]
  have h := pick_run items 0 (revFrom items.size v)
  have e : (List.range (revFrom items.size v)).map (0 + ·) = List.range (revFrom items.size v) := by
    rw [show ((0 + ·) : Nat → Nat) = id from funext fun k => Nat.zero_add k, List.map_id]
  rw [e, List.drop_zero] at h
  rw [h]
def tRevF (K : PySem.W.Frag) (te : TE) (tl : TO) : TE := fun σ H Q => te σ H fun x H1 => ∃ a, x = .ref a ∧ tl σ H1 fun l H2 => ∃ v xs, l = some v ∧ SqL K H2 a xs ∧ ∀ p, H2 p = none → Q (.ref p) (upd H2 p (.lst (xs.take (revFrom xs.length v)).reverse))
theorem pe_revF {X : Cx} {e lo : Expr} {te : TE} {tl : TO} {k : Nat} {p1 p2 p3 pos : Pos} (he : PE X e te) (hl : PO X (some lo) tl)
    (hops : subscriptTail e (.Slice (some lo) none (some (.UnaryOp .USub (.Constant (.int 1) k p1) p2)) p3) = subscriptTail e (.Slice none none (some (.UnaryOp .USub (.Constant (.int 1) k p1) p2)) p3)) : PE X (.Subscript e (.Slice (some lo) none (some (.UnaryOp .USub (.Constant (.int 1) k p1) p2)) p3) pos) (tRevF X.K te tl) := by
  refine ⟨fun pins s σ H Q I h => ?_⟩
  refine Subscript_ (thn (he.run pins s σ H _ I h) fun v s1 ⟨x, H1, I1, r1, q1⟩ => ?_)
  obtain ⟨a, ex, q⟩ := q1
  subst ex
  cases r1
  have hst : PO X (some (.UnaryOp .USub (.Constant (.int 1) k p1) p2)) (tPart (tUn (rU fun i => .int (-i)) (tC (.int 1)))) := po_some (pe_un un_neg pe_int)
  refine wpAny_Slice (thn (hl.run pins s1 σ H1 _ I1 q) fun vl s2 ⟨l, H2, I2, pl, z⟩ => ?_)
  obtain ⟨lv, xs, el, hx, q⟩ := z
  subst el
  refine thn (po_none.run pins s2 σ H2 (fun o H3 => o = none ∧ H3 = H2) I2 ⟨rfl, rfl⟩) fun vu s3 ⟨u, H3, I3, pu, eu, e3⟩ => ?_
  subst eu e3
  refine thn (hst.run pins s3 σ H3 (fun o H4 => o = some (-1) ∧ H4 = H3) I3 ⟨1, rfl, -1, rfl, rfl, rfl⟩) fun vs s4 ⟨o, H4, I4, ps, eo, e4⟩ => ?_
  subst eo e4
  have I5 : Inv X pins σ H4 { s4 with heap := s4.heap.push { cls := .type "slice", data := .fields #[vl, vu, vs] } } := I4.kept (t' := s4.toks) fun b ob q => Heap.get?_push_of_some _ q
  obtain ⟨its, r, ht, hz⟩ := I5.list hx
  have hlen := r.length
  show wpAny (model X.prog X.w) X.A (subscriptTail e (.Slice (some lo) none (some (.UnaryOp .USub (.Constant (.int 1) k p1) p2)) p3) (.ref a) (.ref s4.heap.objs.size)) (EP X pins σ Q) X.xe { s4 with heap := s4.heap.push { cls := .type "slice", data := .fields #[vl, vu, vs] } }
  rw [hops]
  refine tail_any (ops := [.ref a, .ref s4.heap.objs.size]) ht.isList.typeIs (PySem.slot_list_getitem.lookup) ?_ (by with_unfolding_all rfl)
  refine wpAny_getItem_list_slice ht.isList (Heap.IsSliceOf.new _ vl vu vs) pl pu ps (by decide) ?_ (by rw [List.size_toArray]; omega)
  rw [pick_rev]
  have hsz : its.toArray.size = xs.length := by simp [hlen]
  rw [hsz]
  refine ⟨.ref _, _, I5.laid (t' := s4.toks) (o := .lst (xs.take (revFrom xs.length lv)).reverse) (fun b ob q => Heap.get?_push_of_some _ q) (Nat.le_refl _) ?_, rfl, q _ (I5.hok.fresh (Nat.le_refl _))⟩
  exact ⟨by rw [List.length_reverse, List.length_take]; omega, _, 0, (r.take _).reverse, Heap.get?_push_size _ rfl⟩
section
variable {G : Gm} {Wx : WX}
def mRevF (e : ME) (lo : MO) : ME := fun ρ h => bnd (e ρ h) fun w h1 => match w with
  | .ref i => bnd (lo ρ h1) fun l h2 => match l with
    | some v => match rd h2 i with
      | some ws => some (.ok (.ref h2.length) (h2 ++ [.lst (ws.take (revFrom ws.length v)).reverse]))
      | none => none
    | none => none
  | _ => none
theorem w_revF {e : ME} {lo : MO} : ∀ σ H Q, tE G Wx (mRevF e lo) σ H Q → tRevF G.K (tE G Wx e) (tO G Wx lo) σ H Q := fun σ H Q ⟨μ, ρ, h, s, p⟩ =>
  ⟨μ, ρ, h, s, (Post.bnd p).mono fun μ1 h1 H1 wx g q x rx => by
    cases wx with
    | ref i =>
      simp only [RU] at rx
      obtain ⟨hi, rfl⟩ := rx
      simp only at q
      refine ⟨_, rfl, μ1, ρ, h1, s.on g, (Post.bnd q).mono fun μ2 h2 H2 l g2 q2 => ?_⟩
      split at q2
      · rename_i v
        split at q2
        · rename_i ws er
          obtain ⟨xs, sq, rs⟩ := rd_ok g2.rel er
          rw [g2.mu i hi] at sq
          refine ⟨v, xs, rfl, sq, fun p np => ?_⟩
          rw [RUs.length rs]
          have gD := Gr.new (o := .lst (xs.take (revFrom ws.length v)).reverse) (c := .lst (ws.take (revFrom ws.length v)).reverse) g2.rel np ⟨_, upd_same, RUs.mono (fun i hi => nu_old hi) (Nat.le_succ _) (TS0.fresh np) _ _ (RUs.take _ rs).reverse⟩
          refine q2 _ _ gD _ ?_
          simp only [RU]
          exact ⟨by simp, by rw [nu_new]⟩
        · exact False.elim q2
      · exact False.elim q2
    | _ => exact False.elim q⟩
end
section
variable {X : Cx} {G : Gm} {Wx : WX} {e lo : Expr} {ma : ME} {ml : MO} {k : Nat} {p1 p2 p3 pos : Pos}
theorem dRevF (hG : X.K = G.K) (he : PE X e (tE G Wx ma)) (hl : PO X (some lo) (tO G Wx ml)) (hops : subscriptTail e (.Slice (some lo) none (some (.UnaryOp .USub (.Constant (.int 1) k p1) p2)) p3) = subscriptTail e (.Slice none none (some (.UnaryOp .USub (.Constant (.int 1) k p1) p2)) p3)) : PE X (.Subscript e (.Slice (some lo) none (some (.UnaryOp .USub (.Constant (.int 1) k p1) p2)) p3) pos) (tE G Wx (mRevF ma ml)) := by
  have r := pe_revF (k := k) (p1 := p1) (p2 := p2) (p3 := p3) (pos := pos) he hl hops
  rw [hG] at r
  exact r.weak w_revF
end
end ML

set_option maxHeartbeats 4000000
/-! methods with one keyword-only parameter that has a default -/
namespace ML
open PySem PySem.Spec PyProof.Rows L2
section
variable {X : Cx} {CX : CXT} {k n : Nat} {C f : Addr} {fd : FuncData} {ps ks : List Str} {sp : Sp} {E : L2.St → XK} {m pn : Str} {pos apos kpos : Pos} {o e : Expr} {ta te : TE} {d : Int} {g : List Value → List Value → List Value} {gV : List V → List V → List V}
theorem run_kw {pins : List (Addr × Obj)} {σ : L2.St} {H : Hp} {s : Shared} {Q : VK} {us ws : List Value} {vs zs : List V} (F : FnOk X.prog X.w X.K X.mg X.base CX k f fd ps sp) (hr : Room k X.A) (hb : KBn X.K fd ps n ks g gV) (hx : PassesAt CX X σ (E σ)) (I : L2.Inv X pins σ H s) (r : Vals vs us) (rz : Vals zs ws) (l1 : vs.length = n) (l2 : zs.length = ks.length) (h : sp (gV vs zs) H Q (E σ)) :
    wpAny (model X.prog X.w) X.A (call (.ref f) us (ks.zip ws)) (EP X pins σ Q) X.xe s := by
  have r2 := hb.rel r rz
  refine wpAny_call (codeAny_mono (F.run X.A X.stack s H ⟨us, ks.zip ws⟩ (g us ws) (gV vs zs) Q (E σ) hr I.env0 (hb.to s us ws I.kIn (r.length.symm.trans l1) (rz.length.symm.trans l2)) r2 h) fun r s' hq => ?_)
  cases r with
  | error e => exact hx pins _ _ e s' I hq
  | ok fl =>
    cases fl with
    | ret u => exact I.after hq
    | next => exact False.elim hq
    | brk => exact False.elim hq
    | cont => exact False.elim hq
def tMethK0 (C : Addr) (m : Str) (sp : Sp) (d : Int) (E : L2.St → XK) (ta : TE) : TE := fun σ H Q => ta σ H fun x H1 => ∃ a dx fs, x = .ref a ∧ H1 a = some (.ins C dx fs) ∧ fs.lookup m = none ∧ sp [x, .int d] H1 Q (E σ)
theorem pe_methK0 {pl : Sem Bool} {ds : List Value} (he : PE X o ta) (c : Cls X.K C) (hm : Meth X.K C m f) (F : FnOk X.prog X.w X.K X.mg X.base CX k f fd ps sp) (hr : Room k X.A) (hb : Binds X.K fd ps ds) (hd : Vals [.int d] ds) (hx : ∀ σ, PassesAt CX X σ (E σ))
    (ht : eval (.Call (.Attribute o m apos) [] [] pos) X.env = (do
      let ov ← eval o X.env
      standAt apos.atName
      let (f, first) ← holding [ov] (getMethod ov m pl)
      callWith pos f first (backTo pos (starEach [] X.env)) (backToKw pos (keywordEach [] X.env)))) :
    PE X (.Call (.Attribute o m apos) [] [] pos) (tMethK0 C m sp d E ta) := by
  refine ⟨fun pins s σ H Q I h => ?_⟩
  refine PySem.W.methodCall_KW (pl := pl) (thn (he.run pins s σ H _ I h) fun u s1 ⟨x, H1, I1, rx, a, dx, fs, ex, ea, l, q⟩ => ?_) ht
  subst ex
  obtain rfl : u = Value.ref a := rx
  refine getmeth_ok I1 ea c hm l ?_
  exact PySem.W.callWith_K0 (first := [.ref a]) I1.kIn hm.kp (run_fnSD (us := [.ref a]) (vs := [.ref a]) F hr hb hd (hx σ) I1 (.cons rfl .nil) q)
def tMethK1 (C : Addr) (m : Str) (sp : Sp) (E : L2.St → XK) (ta te : TE) : TE := fun σ H Q => ta σ H fun x H1 => ∃ a dx fs, x = .ref a ∧ H1 a = some (.ins C dx fs) ∧ fs.lookup m = none ∧ te σ H1 fun v H2 => sp [x, v] H2 Q (E σ)
theorem pe_methK1 {pl : Sem Bool} (he : PE X o ta) (hk : PE X e te) (c : Cls X.K C) (hm : Meth X.K C m f) (F : FnOk X.prog X.w X.K X.mg X.base CX k f fd ps sp) (hr : Room k X.A) (hb : KBn X.K fd ps 1 [pn] (fun us ws => us ++ ws) (fun vs zs => vs ++ zs)) (hx : ∀ σ, PassesAt CX X σ (E σ))
    (hall : (backToKw pos (keywordEach [⟨some pn, e, kpos⟩] X.env)).all (·.1.isSome) = true) (hks : (backToKw pos (keywordEach [⟨some pn, e, kpos⟩] X.env)).filterMap (·.1) = [pn]) (hpl : ((backTo pos (starEach [] X.env)).any (·.1) || (backToKw pos (keywordEach [⟨some pn, e, kpos⟩] X.env)).any (·.1.isNone)) = false)
    (ht : eval (.Call (.Attribute o m apos) [] [⟨some pn, e, kpos⟩] pos) X.env = (do
      let ov ← eval o X.env
      standAt apos.atName
      let (f, first) ← holding [ov] (getMethod ov m pl)
      callWith pos f first (backTo pos (starEach [] X.env)) (backToKw pos (keywordEach [⟨some pn, e, kpos⟩] X.env)))) :
    PE X (.Call (.Attribute o m apos) [] [⟨some pn, e, kpos⟩] pos) (tMethK1 C m sp E ta te) := by
  refine ⟨fun pins s σ H Q I h => ?_⟩
  refine PySem.W.methodCall_KW (pl := pl) (thn (he.run pins s σ H _ I h) fun u s1 ⟨x, H1, I1, rx, a, dx, fs, ex, ea, l, q⟩ => ?_) ht
  subst ex
  obtain rfl : u = Value.ref a := rx
  refine getmeth_ok I1 ea c hm l ?_
  refine PySem.W.callWith_KW0 (h₀ := X.base) I.ok.mod.kin hm.kp hall ?_ hpl
  refine thn ((pk_cons (nm := some pn) (kpos := kpos) hk pk_nil).run pos pins s1 σ H1 (fun zs H2 => match zs with | [v] => sp [.ref a, v] H2 Q (E σ) | _ => False) I1 q) fun ws s2 ⟨zs, H2, I2, rz, q2⟩ => ⟨I2.kIn, ?_⟩
  rw [hks]
  match zs, rz, q2 with
  | [v], rz, q2 => exact run_kw (us := [.ref a]) (vs := [.ref a]) F hr hb (hx σ) I2 (.cons rfl .nil) rz rfl rfl q2
end
section
variable {X : Cx} {G : Gm} {Wx : WX} {e o : Expr} {m pn : Str} {pos apos kpos : Pos} {me mo : ME}
/-- a method whose one parameter is keyword-only, with an integer as default -/
structure OwnMethK (P : Program) (w : World) (G : Gm) (mg : Str → Option Value) (base : Heap) (m pn : Str) (d : Int) (k c : Nat) (mf : MF) : Prop where
  cl : Cls G.K (G.ca c)
  ex : ∃ f fd ds, Meth G.K (G.ca c) m f ∧ Vals [V.int d] ds ∧ Binds G.K fd ["self", pn] ds ∧ KBn G.K fd ["self", pn] 1 [pn] (fun us ws => us ++ ws) (fun vs zs => vs ++ zs) ∧ FnM P w G mg base k f fd ["self", pn] mf
theorem dMethK0 {k j c : Nat} {d : Int} {mf : MF} {pl : Sem Bool} (hG : X.K = G.K) (om : OwnMethK X.prog X.w G X.mg X.base m pn d k c mf) (hr : Room j X.A) (hk : k ≤ j) (tk : Takes X Wx) (ho : PE X o (tE G Wx mo))
    (ht : eval (.Call (.Attribute o m apos) [] [] pos) X.env = (do
      let ov ← eval o X.env
      standAt apos.atName
      let (f, first) ← holding [ov] (getMethod ov m pl)
      callWith pos f first (backTo pos (starEach [] X.env)) (backToKw pos (keywordEach [] X.env)))) :
    PE X (.Call (.Attribute o m apos) [] [] pos) (tE G Wx (mMeth c m mf mo (mCons (mC (.int d)) mNil))) := by
  obtain ⟨f, fd, ds, M, hd, hb, _, F⟩ := om.ex
  have cl := om.cl
  unfold FnM at F
  obtain ⟨K, ca⟩ := G
  subst hG
  refine (pe_methK0 ho cl M F (hr.mono hk) hb hd (passAt tk) ht).weak fun σ H Q z => ?_
  obtain ⟨μ, ρ, h, s, p⟩ := w_meth (al_cons al_nil) σ H Q z
  exact ⟨μ, ρ, h, s, p.mono fun μ' h' H' w g q v r => by
    obtain ⟨a, dx, fs, ea, e2, e3, kk⟩ := q v r
    exact ⟨a, dx, fs, ea, e2, e3, w_nil _ _ _ (w_int _ _ _ (w_cons _ _ _ kk))⟩⟩
theorem dMethK1 {k j c : Nat} {d : Int} {mf : MF} {pl : Sem Bool} (hG : X.K = G.K) (om : OwnMethK X.prog X.w G X.mg X.base m pn d k c mf) (hr : Room j X.A) (hk : k ≤ j) (tk : Takes X Wx) (ho : PE X o (tE G Wx mo)) (he : PE X e (tE G Wx me))
    (hall : (backToKw pos (keywordEach [⟨some pn, e, kpos⟩] X.env)).all (·.1.isSome) = true) (hks : (backToKw pos (keywordEach [⟨some pn, e, kpos⟩] X.env)).filterMap (·.1) = [pn]) (hpl : ((backTo pos (starEach [] X.env)).any (·.1) || (backToKw pos (keywordEach [⟨some pn, e, kpos⟩] X.env)).any (·.1.isNone)) = false)
    (ht : eval (.Call (.Attribute o m apos) [] [⟨some pn, e, kpos⟩] pos) X.env = (do
      let ov ← eval o X.env
      standAt apos.atName
      let (f, first) ← holding [ov] (getMethod ov m pl)
      callWith pos f first (backTo pos (starEach [] X.env)) (backToKw pos (keywordEach [⟨some pn, e, kpos⟩] X.env)))) :
    PE X (.Call (.Attribute o m apos) [] [⟨some pn, e, kpos⟩] pos) (tE G Wx (mMeth c m mf mo (mCons me mNil))) := by
  obtain ⟨f, fd, ds, M, hd, _, hb, F⟩ := om.ex
  have cl := om.cl
  unfold FnM at F
  obtain ⟨K, ca⟩ := G
  subst hG
  refine (pe_methK1 ho he cl M F (hr.mono hk) hb (passAt tk) hall hks hpl ht).weak fun σ H Q z => ?_
  obtain ⟨μ, ρ, h, s, p⟩ := w_meth (al_cons al_nil) σ H Q z
  exact ⟨μ, ρ, h, s, p.mono fun μ' h' H' w g q v r => by
    obtain ⟨a, dx, fs, ea, e2, e3, kk⟩ := q v r
    refine ⟨a, dx, fs, ea, e2, e3, ?_⟩
    obtain ⟨μ2, ρ2, h2, s2, p2⟩ := w_cons _ _ _ kk
    exact ⟨μ2, ρ2, h2, s2, p2.mono fun μ3 h3 H3 w3 g3 q3 v3 r3 => w_nil _ _ _ (q3 v3 r3)⟩⟩
theorem ntTup2 {x y : Str} {i j k : Nat} {px py : Pos} (hG : X.K = G.K) (hc : X.calm = true) (h1 : PG X (.Name x px) ((NT.one i).tg G.K)) (h2 : PG X (.Name y py) ((NT.one j).tg G.K)) : PG X (.Tuple [.Name x px, .Name y py] k pos) ((NT.tup [i, j]).tg G.K) := by
  obtain ⟨K, ca⟩ := G
  subst hG
  exact pg_tup hc (pgs_cons h1 (pgs_cons h2 pgs_nil))
def tabList : TyK → Option Bool
  | .int => some false
  | .bl => some false
  | .non => some false
  | .str => some false
  | .lst => some true
  | .tup => some false
  | _ => none
theorem isiList : IsiC G tabList (.ty "list") (.type "list") := ⟨ClsV.ty _, fun k b h => by cases k <;> cases h <;> exact kit_ty (by decide +kernel), (fun c b h => nomatch h), (fun c b h => nomatch h)⟩
end
/-- the promise of the def itself, and how it is called -/
theorem kw_facts {K : PySem.W.Frag} {x qual pn : Str} {st : Stmt} {f kd : Addr} {fd : FuncData} {oc : Value} {od : Option Addr} {doc pm : Value} {an : Option Addr} {cdv ct : Value} {osl : Array (Option Value)} {d : Int} {tk : Tok}
    (hfd : fd = PySem.W.fnOf x qual (defArgs st) (defBody st) (defScope st) .none (.ref kd) doc pm an cdv ct) (lk : K.lookup f = some ⟨oc, od, .func fd, osl⟩) (hc : PySem.W.codeIn K cdv qual = true) (kp : PySem.W.keepIn K (.ref f) = true) (hn : PySem.W.nsIn K kd pn = some (some (.int d tk)))
    (h0 : ∀ (D : Addr) (doc pm : Value) (an : Option Addr) (cdv ct : Value) (us ks : List Value), us.length = 1 → ks.length = 1 → KwChain D ([pn].zip ks) (bindArgs (PySem.W.fnOf x qual (defArgs st) (defBody st) (defScope st) .none (.ref D) doc pm an cdv ct) ⟨us, []⟩) ([("self" : Str), pn].zip (us ++ ks)))
    (h1 : ∀ (D : Addr) (doc pm : Value) (an : Option Addr) (cdv ct : Value) (us mv ws : List Value), us.length = 1 → mv.length = 0 → ws.length = 1 → KwChain D ((([] : List (Str × V)).map (·.1)).zip mv) (bindArgs (PySem.W.fnOf x qual (defArgs st) (defBody st) (defScope st) .none (.ref D) doc pm an cdv ct) ⟨us, [pn].zip ws⟩) ([("self" : Str), pn].zip (us ++ ws))) :
    ∃ ds, Vals [V.int d] ds ∧ Binds K fd ["self", pn] ds ∧ KBn K fd ["self", pn] 1 [pn] (fun us ws => us ++ ws) (fun vs zs => vs ++ zs) := by
  have F : FunD K x qual (defArgs st) (defBody st) (defScope st) [] [(pn, V.int d)] f fd := ⟨⟨oc, od, .none, .ref kd, doc, pm, an, cdv, ct, osl, hfd, lk, hc, .inl ⟨rfl, rfl⟩, .inr ⟨kd, rfl, fun q hq => by rw [List.mem_singleton.mp hq]; exact ⟨_, hn, tk, rfl⟩⟩⟩, kp⟩
  obtain ⟨ds, hv, hb⟩ := F.binds0 (ps := ["self", pn]) 1 (by simp) rfl h0
  obtain ⟨mv, hk⟩ := F.kbinds0 (ps := ["self", pn]) 1 [pn] [] (fun us _ ws => us ++ ws) (by simp) (fun q hq => by cases hq) (fun r1 _ r3 => r1.append r3) h1
  exact ⟨ds, hv, hb, hk⟩
end ML

set_option maxHeartbeats 4000000
/-! rising maps by rows: the shortest rows are those of a walk over the minutes; stretches of one value -/
namespace RM
theorem stp_la (s : S) (m v : Int) : (stp s m v).la = v := by
  unfold stp
  split
  · rfl
  · split <;> rfl
theorem runV_add {A : Int → Int} : ∀ (n k : Nat) (lo : Int) (s : S), runV A lo (n + k) s = runV A (lo + n) k (runV A lo n s)
  | 0, k, lo, s => by simp [runV]
  | n + 1, k, lo, s => by
    rw [show n + 1 + k = (n + k) + 1 by omega]
    show runV A (lo + 1) (n + k) (stp s lo (A lo)) = runV A (lo + (n + 1 : Nat)) k (runV A (lo + 1) n (stp s lo (A lo)))
    rw [runV_add n k (lo + 1), show lo + ((n + 1 : Nat) : Int) = lo + 1 + (n : Int) by omega]
theorem runV_congr {A B : Int → Int} : ∀ (n : Nat) (lo : Int) (s : S), (∀ t, lo ≤ t → t < lo + n → A t = B t) → runV A lo n s = runV B lo n s
  | 0, _, _, _ => rfl
  | n + 1, lo, s, h => by
    show runV A (lo + 1) n (stp s lo (A lo)) = runV B (lo + 1) n (stp s lo (B lo))
    rw [h lo (by omega) (by omega)]
    exact runV_congr n (lo + 1) _ fun t h1 h2 => h t (by omega) (by omega)
theorem runV_la {A : Int → Int} : ∀ (n : Nat) (lo : Int) (s : S), 0 < n → (runV A lo n s).la = A (lo + n - 1)
  | 1, lo, s, _ => by
    show (stp s lo (A lo)).la = _
    rw [stp_la]
    congr 1
    omega
  | n + 2, lo, s, _ => by
    show (runV A (lo + 1) (n + 1) (stp s lo (A lo))).la = _
    rw [runV_la (n + 1) (lo + 1) _ (by omega)]
    congr 1
    omega
theorem la_self (s : S) {x : Int} (h : s.la = x) : { s with la := x } = s := by subst h; rfl
theorem stp_go {s : S} {m v d : Int} (h : s.st = some d) (hv : v - s.la = d) : stp s m v = { s with la := v } := by
  unfold stp
  rw [if_neg (by simp [h]), if_neg (by simp [h, hv])]
theorem stp_first {s : S} {m v d : Int} (h : s.st = none) (hv : v - s.la = d) (hd : d = 0 ∨ d = 1) : stp s m v = { s with st := some d, la := v } := by
  unfold stp
  rw [if_pos ⟨h, by rw [hv]; exact hd⟩, hv]
theorem stp_new {s : S} {m v : Int} (h : s.st ≠ some (v - s.la)) (h2 : s.st = none → v - s.la ≠ 0 ∧ v - s.la ≠ 1) : stp s m v = ⟨s.done ++ [(s.b, s.f, decide (s.st = some 1))], m, v, none, v⟩ := by
  unfold stp
  rw [if_neg (fun q => by have := h2 q.1; omega), if_pos h]
theorem runV_skip {A : Int → Int} {d : Int} : ∀ (n : Nat) (lo : Int) (s : S), s.st = some d → s.la = A (lo - 1) → (∀ t, lo - 1 ≤ t → t < lo + n - 1 → A (t + 1) = A t + d) → runV A lo n s = { s with la := A (lo + n - 1) }
  | 0, lo, s, h1, h2, h3 => (la_self s (by rw [h2]; congr 1; omega)).symm
  | n + 1, lo, s, h1, h2, h3 => by
    show runV A (lo + 1) n (stp s lo (A lo)) = _
    have e := h3 (lo - 1) (by omega) (by omega)
    rw [show lo - 1 + 1 = lo by omega] at e
    rw [stp_go h1 (by rw [h2, e]; omega), runV_skip n (lo + 1) { s with la := A lo } h1 (by show A lo = _; congr 1; omega) (fun t a b => h3 t (by omega) (by omega))]
    have : lo + 1 + (n : Int) - 1 = lo + ((n + 1 : Nat) : Int) - 1 := by omega
    rw [this]
theorem after3 {A : Int → Int} {lo d : Int} {s : S} (hd : d = 0 ∨ d = 1) (e1 : A (lo + 1) = A lo + d) (e2 : A (lo + 1 + 1) = A (lo + 1) + d) : (runV A lo 3 s).st = some d := by
  show (stp (stp (stp s lo (A lo)) (lo + 1) (A (lo + 1))) (lo + 1 + 1) (A (lo + 1 + 1))).st = some d
  have l1 := stp_la s lo (A lo)
  generalize stp s lo (A lo) = s1 at *
  have h2 : (stp s1 (lo + 1) (A (lo + 1))).st = none ∨ (stp s1 (lo + 1) (A (lo + 1))).st = some d := by
    cases hs : s1.st with
    | none => rw [stp_first hs (d := d) (by omega) hd]; exact .inr rfl
    | some x =>
      by_cases hx : x = d
      · subst hx
        rw [stp_go hs (by omega)]
        exact .inr hs
      · rw [stp_new (by rw [hs, show A (lo + 1) - s1.la = d by omega]; simpa using hx) (fun q => by rw [hs] at q; cases q)]
        exact .inl rfl
  have l2 := stp_la s1 (lo + 1) (A (lo + 1))
  generalize stp s1 (lo + 1) (A (lo + 1)) = s2 at *
  rcases h2 with h2 | h2
  · rw [stp_first h2 (d := d) (by omega) hd]
  · rw [stp_go h2 (by omega)]; exact h2
theorem after2 {A : Int → Int} {lo d : Int} {s : S} (hd : d = 0 ∨ d = 1) (hs : s.st = none) (e1 : A lo = s.la + d) (e2 : A (lo + 1) = A lo + d) : (runV A lo 2 s).st = some d := by
  show (stp (stp s lo (A lo)) (lo + 1) (A (lo + 1))).st = some d
  rw [stp_first hs (d := d) (by omega) hd, stp_go (d := d) rfl (by show A (lo + 1) - A lo = d; omega)]
def lo1 (r : Row) : Int := if r.1 ≥ 1 then r.1 else 1
theorem run_row {A : Int → Int} {r : Row} {after : Int} {s : S} (h0 : 0 ≤ r.1) (ha : r.1 < after) (hA : ∀ t, r.1 ≤ t → t < after → A t = rv r t) (hs : r.1 = 0 → s.la = A 0 ∧ s.st = none) : runR r after s = runV A (lo1 r) (after - lo1 r).toNat s := by
  obtain ⟨lo, hlo⟩ : ∃ lo, lo = lo1 r := ⟨_, rfl⟩
  have l1 : r.1 ≤ lo ∧ 1 ≤ lo ∧ (r.1 ≥ 1 → lo = r.1) ∧ (r.1 = 0 → lo = 1) := by
    rw [hlo]; unfold lo1; split <;> omega
  unfold runR
  simp only
  rw [show (if r.1 ≥ 1 then r.1 else 1) = lo from hlo.symm, ← hlo]
  have hla : rv r (after - 1) = A (after - 1) := (hA _ (by omega) (by omega)).symm
  by_cases hc : after ≤ r.1 + 3
  · rw [if_pos hc, runV_congr (A := rv r) (B := A) _ _ _ (fun t a b => (hA t (by omega) (by omega)).symm), hla]
    refine la_self _ ?_
    by_cases hn : 0 < (after - lo).toNat
    · rw [runV_la _ _ _ hn]; congr 1; omega
    · have : r.1 = 0 := by omega
      rw [show (after - lo).toNat = 0 by omega]
      show s.la = _
      rw [(hs this).1]; congr 1; omega
  · rw [if_neg hc, runV_congr (A := rv r) (B := A) _ _ _ (fun t a b => (hA t (by omega) (by omega)).symm), hla]
    obtain ⟨d, hd, hdA⟩ : ∃ d : Int, (d = 0 ∨ d = 1) ∧ ∀ t, r.1 ≤ t → t + 1 < after → A (t + 1) = A t + d := by
      refine ⟨if r.2.2 then 1 else 0, by split <;> simp, fun t a b => ?_⟩
      rw [hA t a (by omega), hA (t + 1) (by omega) (by omega)]
      unfold rv
      split <;> omega
    obtain ⟨k, hk⟩ : ∃ k : Nat, k = (after - (r.1 + 3)).toNat := ⟨_, rfl⟩
    rw [show (after - lo).toNat = (r.1 + 3 - lo).toNat + k by omega, runV_add]
    have hst : (runV A lo (r.1 + 3 - lo).toNat s).st = some d := by
      by_cases hr : r.1 ≥ 1
      · rw [show (r.1 + 3 - lo).toNat = 3 by have := l1.2.2.1 hr; omega]
        exact after3 hd (hdA lo (by omega) (by have := l1.2.2.1 hr; omega)) (hdA (lo + 1) (by omega) (by have := l1.2.2.1 hr; omega))
      · have hr0 : r.1 = 0 := by omega
        have := l1.2.2.2 hr0
        rw [show (r.1 + 3 - lo).toNat = 2 by omega]
        refine after2 hd (hs hr0).2 ?_ (hdA lo (by omega) (by omega))
        have e := hdA 0 (by omega) (by omega)
        rw [(hs hr0).1, this]
        exact e
    rw [runV_skip k _ _ hst (by rw [runV_la _ _ _ (by omega)]) (fun t a b => hdA t (by omega) (by omega))]
    have : lo + ((r.1 + 3 - lo).toNat : Int) + (k : Int) - 1 = after - 1 := by omega
    rw [this]
/-- the rows give the values A, up to the minute m -/
def CovTo (A : Int → Int) : List Row → Int → Prop
  | [], _ => True
  | [r], m => r.1 < m ∧ ∀ t, r.1 ≤ t → t < m → A t = rv r t
  | r :: q :: rest, m => r.1 < q.1 ∧ (∀ t, r.1 ≤ t → t < q.1 → A t = rv r t) ∧ CovTo A (q :: rest) m
def lastS : List Row → Int
  | [] => 0
  | [r] => r.1
  | _ :: q :: rest => lastS (q :: rest)
theorem lastS_snoc : ∀ (xs : List Row) (b : Row), lastS (xs ++ [b]) = b.1
  | [], b => rfl
  | [x], b => rfl
  | x :: y :: xs, b => lastS_snoc (y :: xs) b
theorem CovTo.ext {A : Int → Int} {b : Row} {m m' : Int} (hm : m ≤ m') (hA : ∀ t, m ≤ t → t < m' → A t = rv b t) : ∀ (xs : List Row), CovTo A (xs ++ [b]) m → CovTo A (xs ++ [b]) m'
  | [], h => ⟨by have := h.1; omega, fun t a c => if q : t < m then h.2 t a q else hA t (by omega) c⟩
  | [x], h => ⟨h.1, h.2.1, CovTo.ext hm hA [] h.2.2⟩
  | x :: y :: xs, h => ⟨h.1, h.2.1, CovTo.ext hm hA (y :: xs) h.2.2⟩
theorem CovTo.next {A : Int → Int} {b : Row} {m v : Int} {g : Bool} (hv : A m = v) : ∀ (xs : List Row), CovTo A (xs ++ [b]) m → CovTo A (xs ++ [b] ++ [(m, v, g)]) (m + 1)
  | [], h => ⟨h.1, h.2, by show m < m + 1; omega, fun t a c => by
      have : t = m := by have : m ≤ t := a; omega
      subst this
      rw [hv]
      unfold rv
      split <;> simp⟩
  | [x], h => ⟨h.1, h.2.1, CovTo.next hv [] h.2.2⟩
  | x :: y :: xs, h => ⟨h.1, h.2.1, CovTo.next hv (y :: xs) h.2.2⟩
theorem CovTo.le {A : Int → Int} {m : Int} : ∀ (rs : List Row) (r : Row), CovTo A (r :: rs) m → r.1 ≤ lastS (r :: rs)
  | [], r, h => Int.le_refl _
  | q :: rs, r, h => by
    have := CovTo.le rs q h.2.2
    have := h.1
    show r.1 ≤ lastS (q :: rs)
    omega
theorem run_rows {A : Int → Int} {m : Int} : ∀ (rs : List Row) (r : Row) (s : S), CovTo A (r :: rs) m → m = lastS (r :: rs) + 3 → 0 ≤ r.1 → (r.1 = 0 → s.la = A 0 ∧ s.st = none) → runRs (r :: rs) s = runV A (lo1 r) (m - lo1 r).toNat s
  | [], r, s, h, hm, h0, hs => by
    show runR r (r.1 + 3) s = _
    have hm : m = r.1 + 3 := hm
    rw [run_row h0 (by omega) (fun t a b => h.2 t a (by omega)) hs, hm]
  | q :: rs, r, s, h, hm, h0, hs => by
    show runRs (q :: rs) (runR r q.1 s) = _
    have h1 := h.1
    rw [run_row h0 h1 h.2.1 hs, run_rows rs q _ h.2.2 hm (by omega) (fun z => by omega)]
    have hq : lo1 q = q.1 := by unfold lo1; rw [if_pos (by omega)]
    have hr : 1 ≤ lo1 r ∧ lo1 r ≤ q.1 := by unfold lo1; split <;> omega
    have hle := CovTo.le rs q h.2.2
    have hm2 : m = lastS (q :: rs) + 3 := hm
    rw [hq, show (m - lo1 r).toNat = (q.1 - lo1 r).toNat + (m - q.1).toNat by omega, runV_add]
    congr 1
    omega
/-- the walk -/
def walk (A : Int → Int) (n : Nat) : S := runV A 1 n ⟨[], 0, A 0, none, A 0⟩
theorem short_walk {A : Int → Int} {r : Row} {rs : List Row} {m : Int} (h : CovTo A (r :: rs) m) (hm : m = lastS (r :: rs) + 3) (h0 : r.1 = 0) : short (r :: rs) = fin (walk A (lastS (r :: rs) + 2).toNat) := by
  have ha : A 0 = r.2.1 := by
    have : A 0 = rv r 0 := by
      cases rs with
      | nil => exact h.2 0 (by omega) (by have := h.1; omega)
      | cons q rs => exact h.2.1 0 (by omega) (by have := h.1; omega)
    rw [this]
    unfold rv
    rw [h0]
    split <;> simp
  show fin (runRs (r :: rs) ⟨[], 0, r.2.1, none, r.2.1⟩) = _
  rw [run_rows rs r _ h hm (by omega) (fun _ => ⟨by rw [ha], rfl⟩)]
  unfold walk
  rw [ha, show lo1 r = 1 by unfold lo1; rw [if_neg (by omega)], show (m - 1).toNat = (lastS (r :: rs) + 2).toNat by omega]
/-! stretches -/
def fst1 (p : Option Row) (b f : Int) : Int := match p with
  | some p => if rv p (b - 1) = f then b - 1 else b
  | none => b
def stchs (nx : Int) : Option Row → List Row → List (Int × Int)
  | _, [] => []
  | p, [r] => [(fst1 p r.1 r.2.1, if r.2.2 then r.1 else nx - 1)]
  | p, r :: q :: rest => (fst1 p r.1 r.2.1, if r.2.2 then r.1 else q.1 - 1) :: stchs nx (some r) (q :: rest)
def lastOr : Option Row → List Row → Option Row
  | p, [] => p
  | _, x :: xs => lastOr (some x) xs
theorem lastOr_snoc : ∀ (p : Option Row) (xs : List Row) (r : Row), lastOr p (xs ++ [r]) = some r
  | _, [], _ => rfl
  | _, x :: xs, r => lastOr_snoc (some x) xs r
theorem stchs_snoc {nx : Int} {r : Row} : ∀ (p : Option Row) (xs : List Row), stchs nx p (xs ++ [r]) = stchs r.1 p xs ++ [(fst1 (lastOr p xs) r.1 r.2.1, if r.2.2 then r.1 else nx - 1)]
  | p, [] => rfl
  | p, [x] => rfl
  | p, x :: y :: xs => by
    show (_, _) :: stchs nx (some x) (y :: xs ++ [r]) = _
    rw [stchs_snoc (some x) (y :: xs)]
    rfl
def filt (k : Int) (l : List (Int × Int)) : List (Int × Int) := l.filter fun p => decide (p.2 - p.1 + 1 ≥ k)
theorem filt_app (k : Int) (a b : List (Int × Int)) : filt k (a ++ b) = filt k a ++ filt k b := List.filter_append ..
theorem filt_one (k : Int) (x y : Int) : filt k [(x, y)] = if y - x + 1 ≥ k then [(x, y)] else [] := by
  unfold filt
  rw [List.filter_cons]
  simp
/-- what is due, minute by minute -/
def duS (A : Int → Int) (k m : Int) (p : List (Int × Int) × Int) : List (Int × Int) × Int :=
  if A (m + 1) ≠ A m then ((if m - p.2 + 1 ≥ k then p.1 ++ [(p.2, m)] else p.1), m + 1) else p
def du (A : Int → Int) (k : Int) : Int → Nat → List (Int × Int) × Int → List (Int × Int) × Int
  | _, 0, p => p
  | m, n + 1, p => du A k (m + 1) n (duS A k m p)
structure J (A : Int → Int) (k : Int) (s : S) (m : Int) (p : List (Int × Int) × Int) : Prop where
  la : s.la = A m
  st : (s.st = none ∧ m = s.b ∧ A m = s.f ∧ p.2 = fst1 (lastOr none s.done) s.b s.f ∧ p.1 = filt k (stchs s.b none s.done)) ∨
    (s.st = some 0 ∧ A m = s.f ∧ p.2 = fst1 (lastOr none s.done) s.b s.f ∧ p.1 = filt k (stchs s.b none s.done)) ∨
    (s.st = some 1 ∧ A m = s.f + (m - s.b) ∧ p.2 = m ∧ p.1 = filt k (stchs s.b none s.done ++ [(fst1 (lastOr none s.done) s.b s.f, s.b)]))
theorem J.step {A : Int → Int} {k : Int} (hk : 2 ≤ k) {s : S} {m : Int} {p : List (Int × Int) × Int} (h : J A k s m p) : J A k (stp s (m + 1) (A (m + 1))) (m + 1) (duS A k m p) := by
  refine ⟨stp_la _ _ _, ?_⟩
  have la := h.la
  have fresh : ∀ (g : Bool) (x : List (Int × Int)), A (m + 1) ≠ A m → rv (s.b, s.f, g) m = A m → x = filt k (stchs (m + 1) none (s.done ++ [(s.b, s.f, g)])) →
      (stp s (m + 1) (A (m + 1)) = ⟨s.done ++ [(s.b, s.f, g)], m + 1, A (m + 1), none, A (m + 1)⟩) →
      ((stp s (m + 1) (A (m + 1))).st = none ∧ m + 1 = (stp s (m + 1) (A (m + 1))).b ∧ A (m + 1) = (stp s (m + 1) (A (m + 1))).f ∧ (m + 1 : Int) = fst1 (lastOr none (stp s (m + 1) (A (m + 1))).done) (stp s (m + 1) (A (m + 1))).b (stp s (m + 1) (A (m + 1))).f ∧ x = filt k (stchs (stp s (m + 1) (A (m + 1))).b none (stp s (m + 1) (A (m + 1))).done)) := fun g x hne hrv hx e => by
    rw [e]
    refine ⟨rfl, rfl, rfl, ?_, hx⟩
    show _ = fst1 (lastOr none (s.done ++ [(s.b, s.f, g)])) (m + 1) (A (m + 1))
    rw [lastOr_snoc]
    show _ = if rv (s.b, s.f, g) (m + 1 - 1) = A (m + 1) then _ else _
    rw [show m + 1 - 1 = m by omega, hrv, if_neg (Ne.symm hne)]
  rcases h.st with ⟨h1, h2, h3, h4, h5⟩ | ⟨h1, h3, h4, h5⟩ | ⟨h1, h3, h4, h5⟩
  · by_cases e0 : A (m + 1) - A m = 0
    · rw [stp_first h1 (d := 0) (by omega) (.inl rfl)]
      unfold duS
      rw [if_neg (by omega)]
      exact .inr (.inl ⟨rfl, by show A (m + 1) = s.f; omega, h4, h5⟩)
    · by_cases e1 : A (m + 1) - A m = 1
      · rw [stp_first h1 (d := 1) (by omega) (.inr rfl)]
        unfold duS
        rw [if_pos (by omega)]
        refine .inr (.inr ⟨rfl, by show A (m + 1) = s.f + (m + 1 - s.b); omega, rfl, ?_⟩)
        show (if m - p.2 + 1 ≥ k then p.1 ++ [(p.2, m)] else p.1) = filt k (stchs s.b none s.done ++ [(fst1 (lastOr none s.done) s.b s.f, s.b)])
        rw [filt_app, filt_one, ← h4, ← h5, ← h2]
        split <;> simp
      · have hn := stp_new (s := s) (m := m + 1) (v := A (m + 1)) (by rw [h1]; simp) (fun _ => by omega)
        rw [h1] at hn
        unfold duS
        rw [if_pos (by omega)]
        refine .inl (fresh false _ (by omega) (by unfold rv; simpa using h3.symm) ?_ (by rw [hn]; simp))
        rw [stchs_snoc, filt_app]
        show (if m - p.2 + 1 ≥ k then p.1 ++ [(p.2, m)] else p.1) = filt k (stchs s.b none s.done) ++ filt k [(fst1 (lastOr none s.done) s.b s.f, m + 1 - 1)]
        rw [show m + 1 - 1 = m by omega, filt_one, ← h4, ← h5]
        split <;> simp
  · by_cases e0 : A (m + 1) - A m = 0
    · rw [stp_go h1 (by omega)]
      unfold duS
      rw [if_neg (by omega)]
      exact .inr (.inl ⟨h1, by show A (m + 1) = s.f; omega, h4, h5⟩)
    · have hn := stp_new (s := s) (m := m + 1) (v := A (m + 1)) (by rw [h1]; intro q; have := Option.some.inj q; omega) (fun q => by rw [h1] at q; cases q)
      rw [h1] at hn
      unfold duS
      rw [if_pos (by omega)]
      refine .inl (fresh false _ (by omega) (by unfold rv; simpa using h3.symm) ?_ (by rw [hn]; simp))
      rw [stchs_snoc, filt_app]
      show (if m - p.2 + 1 ≥ k then p.1 ++ [(p.2, m)] else p.1) = filt k (stchs s.b none s.done) ++ filt k [(fst1 (lastOr none s.done) s.b s.f, m + 1 - 1)]
      rw [show m + 1 - 1 = m by omega, filt_one, ← h4, ← h5]
      split <;> simp
  · by_cases e1 : A (m + 1) - A m = 1
    · rw [stp_go h1 (by omega)]
      unfold duS
      rw [if_pos (by omega), h4, if_neg (by omega)]
      exact .inr (.inr ⟨h1, by show A (m + 1) = s.f + (m + 1 - s.b); omega, rfl, h5⟩)
    · have hn := stp_new (s := s) (m := m + 1) (v := A (m + 1)) (by rw [h1]; intro q; have := Option.some.inj q; omega) (fun q => by rw [h1] at q; cases q)
      rw [h1] at hn
      have hrv : rv (s.b, s.f, true) m = A m := by unfold rv; simp; omega
      have hx : p.1 = filt k (stchs (m + 1) none (s.done ++ [(s.b, s.f, true)])) := by rw [stchs_snoc, h5]; rfl
      by_cases e0 : A (m + 1) = A m
      · unfold duS
        rw [if_neg (by simpa using e0), hn]
        refine .inl ⟨rfl, rfl, rfl, ?_, by simpa using hx⟩
        rw [h4]
        show m = fst1 (lastOr none (s.done ++ [(s.b, s.f, _)])) (m + 1) (A (m + 1))
        rw [lastOr_snoc]
        show m = if rv (s.b, s.f, decide (some (1 : Int) = some 1)) (m + 1 - 1) = A (m + 1) then _ else _
        rw [show m + 1 - 1 = m by omega, show decide (some (1 : Int) = some 1) = true by simp, hrv, if_pos e0.symm]
      · unfold duS
        rw [if_pos e0, h4, if_neg (by omega)]
        exact .inl (fresh true _ e0 hrv hx (by rw [hn]; simp))
theorem J.run {A : Int → Int} {k : Int} (hk : 2 ≤ k) : ∀ (n : Nat) (s : S) (m : Int) (p : List (Int × Int) × Int), J A k s m p → J A k (runV A (m + 1) n s) (m + n) (du A k m n p)
  | 0, s, m, p, h => by simpa [runV, du] using h
  | n + 1, s, m, p, h => by
    have := J.run hk n _ (m + 1) _ (h.step hk)
    rw [show m + 1 + (n : Int) = m + ((n + 1 : Nat) : Int) by omega] at this
    exact this
theorem levels_due {A : Int → Int} {k : Int} (hk : 2 ≤ k) {n : Nat} (hs : (walk A n).st = some 1) (nx : Int) : (du A k 0 n ([], 0)).1 = filt k (stchs nx none (fin (walk A n))) := by
  have j : J A k (walk A n) (0 + (n : Int)) (du A k 0 n ([], 0)) := J.run hk n ⟨[], 0, A 0, none, A 0⟩ 0 ([], 0) ⟨rfl, .inl ⟨rfl, rfl, rfl, rfl, rfl⟩⟩
  rcases j.st with ⟨h1, _⟩ | ⟨h1, _⟩ | ⟨h1, h3, h4, h5⟩
  · rw [hs] at h1; cases h1
  · rw [hs] at h1; cases h1
  · rw [h5]
    unfold fin
    rw [stchs_snoc]
    rfl
theorem st_end {A : Int → Int} (ls : Nat) (e1 : A ((ls : Int) + 1) = A ls + 1) (e2 : A ((ls : Int) + 1 + 1) = A ((ls : Int) + 1) + 1) : (walk A (ls + 2)).st = some 1 := by
  unfold walk
  cases ls with
  | zero => exact after2 (.inr rfl) rfl e1 e2
  | succ l =>
    rw [show l + 1 + 2 = l + 3 by omega, runV_add]
    rw [show (1 : Int) + (l : Int) = ((l + 1 : Nat) : Int) by omega]
    exact after3 (.inr rfl) e1 e2
end RM

set_option maxHeartbeats 4000000
namespace K06
open PySem L2 ML
def topS (i : Nat) : Stmt := PySem.Challenge.pw_laterways_k06_level_stretches.main.body.getD i (.Pass ⟨0, 0, 0, 0⟩)
def tk_CalendarError : Nat → Option Bool := fun c => if c = 1 then some true else if c = 2 then some true else none
def tk_BadNumber : Nat → Option Bool := fun c => if c = 1 then some true else if c = 2 then some false else none
def tk_BadRows : Nat → Option Bool := fun c => if c = 1 then some false else if c = 2 then some true else none
def at_rows_i : Nat → Bool := fun c => decide (c = 3)
def at_rows_e : Nat → Bool := fun _ => false
def at_value_i : Nat → Bool := fun _ => false
def at_value_e : Nat → Bool := fun c => decide (c = 1)
def at_what_i : Nat → Bool := fun _ => false
def at_what_e : Nat → Bool := fun c => decide (c = 1)
abbrev n_CalendarError : Nat := 0
abbrev n_BadNumber : Nat := 1
abbrev n_BadRows : Nat := 2
abbrev n_Rising : Nat := 3
def nf_Rising : Nat → Bool := fun c => decide (c = 3)
structure Fx (G : Gm) (mg : Str → Option Value) : Prop where
  b_abs : mg "abs" = none
  b_bool : mg "bool" = none
  b_enumerate : mg "enumerate" = none
  b_int : mg "int" = none
  b_isinstance : mg "isinstance" = none
  b_len : mg "len" = none
  b_list : mg "list" = none
  b_max : mg "max" = none
  b_range : mg "range" = none
  b_tuple : mg "tuple" = none
  a_rows : AtX G "rows" at_rows_i at_rows_e
  a_value : AtX G "value" at_value_i at_value_e
  a_what : AtX G "what" at_what_i at_what_e
  s_rows : AtC G "rows" at_rows_i
  t_CalendarError : TakC G tk_CalendarError (.ref (G.ca 0))
  g_CalendarError : mg "CalendarError" = some (.ref (G.ca 0))
  t_BadNumber : TakC G tk_BadNumber (.ref (G.ca 1))
  g_BadNumber : mg "BadNumber" = some (.ref (G.ca 1))
  t_BadRows : TakC G tk_BadRows (.ref (G.ca 2))
  g_BadRows : mg "BadRows" = some (.ref (G.ca 2))
section
variable {P : Program} {w : World} {G : Gm} {mg : Str → Option Value} {base : Heap} {f : Addr} {fd : FuncData}
abbrev t_start_of : Stmt := topS 13
theorem sc_start_of : FnScope ["rows", "place"] ["rows", "place"] (defScope t_start_of) := ⟨rfl, rfl, rfl, by decide +kernel, rfl, by decide +kernel, by decide +kernel⟩
noncomputable def b_start_of : MS :=
    (mRet (mIfE (mB (mOp oLt (mVar 1) (mCB fLen (mCons (mVar 0) mNil)))) (mOp oIx (mOp oIx (mVar 0) (mVar 1)) (mC (.int 0))) (mC .non)))
noncomputable def m_start_of : MF := mfun 2 2 b_start_of
theorem ok_start_of (fx : Fx G mg) (F : Fun G.K "start_of" "start_of" t_start_of f fd) : FnM P w G mg base 1 f fd ["rows", "place"] m_start_of :=
  fn_M (k := 0) F sc_start_of fun cdv A outer s H E hr tk => by
  exact (dOne (dRet (dIfE (qLt (dVar 1 (by kernel_rfl) (by kernel_rfl) (by kernel_rfl) (by kernel_rfl)) (dB (cLen rfl) fLen_ok fx.b_len (by kernel_rfl) (by kernel_rfl) (dCons (dVar 0 (by kernel_rfl) (by kernel_rfl) (by kernel_rfl) (by kernel_rfl)) dNil (by kernel_rfl)) (by decide +kernel) (by kernel_rfl) ⟨(by kernel_rfl), (by kernel_rfl)⟩)) (dIx rfl (dIx rfl (dVar 0 (by kernel_rfl) (by kernel_rfl) (by kernel_rfl) (by kernel_rfl)) (dVar 1 (by kernel_rfl) (by kernel_rfl) (by kernel_rfl) (by kernel_rfl)) (fun _ _ => rfl)) dInt (fun _ _ => rfl)) dNon)))
abbrev t_row_value : Stmt := topS 12
theorem sc_row_value : FnScope ["row", "minute", "start", "value", "grows"] ["row", "minute"] (defScope t_row_value) := ⟨rfl, rfl, rfl, by decide +kernel, rfl, by decide +kernel, by decide +kernel⟩
noncomputable def b_row_value : MS :=
    (mSeq (mAsg (gT 3 (gC (gN 2) (gC (gN 3) (gC (gN 4) gE)))) (mVar 0))
    (mRet (mIfE (mB (mVar 4)) (mOp oSub (mOp oAdd (mVar 3) (mVar 1)) (mVar 2)) (mVar 3))))
noncomputable def m_row_value : MF := mfun 2 5 b_row_value
theorem ok_row_value (fx : Fx G mg) (F : Fun G.K "row_value" "row_value" t_row_value f fd) : FnM P w G mg base 1 f fd ["row", "minute"] m_row_value :=
  fn_M (k := 0) F sc_row_value fun cdv A outer s H E hr tk => by
  exact (dSeq (dAsg (dVar 0 (by kernel_rfl) (by kernel_rfl) (by kernel_rfl) (by kernel_rfl)) (gTupD rfl rfl (gConsD (gName sc_row_value.nd (by kernel_rfl) (by kernel_rfl) (Or.inl rfl)) (gConsD (gName sc_row_value.nd (by kernel_rfl) (by kernel_rfl) (Or.inl rfl)) (gConsD (gName sc_row_value.nd (by kernel_rfl) (by kernel_rfl) (Or.inl rfl)) gNil' (by kernel_rfl)) (by kernel_rfl)) (by kernel_rfl)) (by kernel_rfl) (by kernel_rfl)) (by kernel_rfl) (by kernel_rfl) (by kernel_rfl))
    (dOne (dRet (dIfE (qVal (dVar 4 (by kernel_rfl) (by kernel_rfl) (by kernel_rfl) (by kernel_rfl)) (fun _ => rfl)) (dSub (dAdd rfl (dVar 3 (by kernel_rfl) (by kernel_rfl) (by kernel_rfl) (by kernel_rfl)) (dVar 1 (by kernel_rfl) (by kernel_rfl) (by kernel_rfl) (by kernel_rfl))) (dVar 2 (by kernel_rfl) (by kernel_rfl) (by kernel_rfl) (by kernel_rfl))) (dVar 3 (by kernel_rfl) (by kernel_rfl) (by kernel_rfl) (by kernel_rfl))))))
abbrev t_greater : Stmt := topS 10
theorem sc_greater : FnScope ["first", "second"] ["first", "second"] (defScope t_greater) := ⟨rfl, rfl, rfl, by decide +kernel, rfl, by decide +kernel, by decide +kernel⟩
noncomputable def b_greater : MS :=
    (mRet (mIfE (mB (mOp oGe (mVar 0) (mVar 1))) (mVar 0) (mVar 1)))
noncomputable def m_greater : MF := mfun 2 2 b_greater
theorem ok_greater (fx : Fx G mg) (F : Fun G.K "greater" "greater" t_greater f fd) : FnM P w G mg base 1 f fd ["first", "second"] m_greater :=
  fn_M (k := 0) F sc_greater fun cdv A outer s H E hr tk => by
  exact (dOne (dRet (dIfE (qGe (dVar 0 (by kernel_rfl) (by kernel_rfl) (by kernel_rfl) (by kernel_rfl)) (dVar 1 (by kernel_rfl) (by kernel_rfl) (by kernel_rfl) (by kernel_rfl))) (dVar 0 (by kernel_rfl) (by kernel_rfl) (by kernel_rfl) (by kernel_rfl)) (dVar 1 (by kernel_rfl) (by kernel_rfl) (by kernel_rfl) (by kernel_rfl)))))
abbrev t_lesser : Stmt := topS 9
theorem sc_lesser : FnScope ["first", "second"] ["first", "second"] (defScope t_lesser) := ⟨rfl, rfl, rfl, by decide +kernel, rfl, by decide +kernel, by decide +kernel⟩
noncomputable def b_lesser : MS :=
    (mRet (mIfE (mB (mOp oLe (mVar 0) (mVar 1))) (mVar 0) (mVar 1)))
noncomputable def m_lesser : MF := mfun 2 2 b_lesser
theorem ok_lesser (fx : Fx G mg) (F : Fun G.K "lesser" "lesser" t_lesser f fd) : FnM P w G mg base 1 f fd ["first", "second"] m_lesser :=
  fn_M (k := 0) F sc_lesser fun cdv A outer s H E hr tk => by
  exact (dOne (dRet (dIfE (qLe (dVar 0 (by kernel_rfl) (by kernel_rfl) (by kernel_rfl) (by kernel_rfl)) (dVar 1 (by kernel_rfl) (by kernel_rfl) (by kernel_rfl) (by kernel_rfl))) (dVar 0 (by kernel_rfl) (by kernel_rfl) (by kernel_rfl) (by kernel_rfl)) (dVar 1 (by kernel_rfl) (by kernel_rfl) (by kernel_rfl) (by kernel_rfl)))))
abbrev t_shortest : Stmt := topS 18
theorem sc_shortest : FnScope ["rows", "done", "begin", "first", "step", "last", "place", "row", "after", "minute", "value", "rise"] ["rows"] (defScope t_shortest) := ⟨rfl, rfl, rfl, by decide +kernel, rfl, by decide +kernel, by decide +kernel⟩
noncomputable def b_shortest : MS :=
    (mSeq (mSet 1 (mLst mNil))
    (mSeq (mAsg (gT 4 (gC (gN 2) (gC (gN 3) (gC (gN 4) (gC (gN 5) gE))))) (mTup (mCons (mC (.int 0)) (mCons (mOp oIx (mOp oIx (mVar 0) (mC (.int 0))) (mC (.int 1))) (mCons (mC .non) (mCons (mOp oIx (mOp oIx (mVar 0) (mC (.int 0))) (mC (.int 1))) mNil))))))
    (mSeq (mFor (iEnA (mVar 0)) (gT 2 (gC (gN 6) (gC (gN 7) gE)))
    (mSeq (mSet 8 (mCB m_start_of (mCons (mVar 0) (mCons (mOp oAdd (mVar 6) (mC (.int 1))) mNil))))
    (mSeq (mIf (mB (mIsN false (mVar 8)))
    (mSet 8 (mOp oAdd (mOp oIx (mVar 7) (mC (.int 0))) (mC (.int 3))))
    mSkip)
    (mSeq (mFor (iR2 (mCB m_greater (mCons (mOp oIx (mVar 7) (mC (.int 0))) (mCons (mC (.int 1)) mNil))) (mCB m_lesser (mCons (mVar 8) (mCons (mOp oAdd (mOp oIx (mVar 7) (mC (.int 0))) (mC (.int 3))) mNil)))) (gN 9)
    (mSeq (mSet 10 (mCB m_row_value (mCons (mVar 7) (mCons (mVar 9) mNil))))
    (mSeq (mSet 11 (mOp oSub (mVar 10) (mVar 5)))
    (mSeq (mIf (mTAnd (mB (mIsN false (mVar 4))) (mB (mOp (oInA false) (mVar 11) (mTup (mCons (mC (.int 0)) (mCons (mC (.int 1)) mNil))))))
    (mSet 4 (mVar 11))
    (mIf (mB (mOp (oNe 3) (mVar 11) (mVar 4)))
    (mSeq (mDrop (mBM kList fAppend (mVar 1) (mCons (mTup (mCons (mVar 2) (mCons (mVar 3) (mCons (mOp (oEq 3) (mVar 4) (mC (.int 1))) mNil)))) mNil)))
    (mPar3 2 3 4 (mCons (mVar 9) (mCons (mVar 10) (mCons (mC .non) mNil)))))
    mSkip))
    (mSet 5 (mVar 10))))))
    (mSet 5 (mCB m_row_value (mCons (mVar 7) (mCons (mOp oSub (mVar 8) (mC (.int 1))) mNil))))))))
    (mSeq (mDrop (mBM kList fAppend (mVar 1) (mCons (mTup (mCons (mVar 2) (mCons (mVar 3) (mCons (mC (.bl true)) mNil)))) mNil)))
    (mRet (mCB fTuple (mCons (mVar 1) mNil)))))))
noncomputable def m_shortest : MF := mfun 1 12 b_shortest
theorem ok_shortest (fx : Fx G mg) (c_start_of : Callee P w G mg base "start_of" 1 ["rows", "place"] m_start_of) (c_greater : Callee P w G mg base "greater" 1 ["first", "second"] m_greater) (c_lesser : Callee P w G mg base "lesser" 1 ["first", "second"] m_lesser) (c_row_value : Callee P w G mg base "row_value" 1 ["row", "minute"] m_row_value) (F : Fun G.K "shortest" "shortest" t_shortest f fd) : FnM P w G mg base 2 f fd ["rows"] m_shortest :=
  fn_M (k := 1) F sc_shortest fun cdv A outer s H E hr tk => by
  exact (dSeq (dSet (dLst dNil) sc_shortest.nd (by kernel_rfl) (by kernel_rfl) (by kernel_rfl) (Or.inl rfl))
    (dSeq (dAsg (dTup (dCons dInt (dCons (dIx rfl (dIx rfl (dVar 0 (by kernel_rfl) (by kernel_rfl) (by kernel_rfl) (by kernel_rfl)) dInt (fun _ _ => rfl)) dInt (fun _ _ => rfl)) (dCons dNon (dCons (dIx rfl (dIx rfl (dVar 0 (by kernel_rfl) (by kernel_rfl) (by kernel_rfl) (by kernel_rfl)) dInt (fun _ _ => rfl)) dInt (fun _ _ => rfl)) dNil (by kernel_rfl)) (by kernel_rfl)) (by kernel_rfl)) (by kernel_rfl))) (gTupD rfl rfl (gConsD (gName sc_shortest.nd (by kernel_rfl) (by kernel_rfl) (Or.inl rfl)) (gConsD (gName sc_shortest.nd (by kernel_rfl) (by kernel_rfl) (Or.inl rfl)) (gConsD (gName sc_shortest.nd (by kernel_rfl) (by kernel_rfl) (Or.inl rfl)) (gConsD (gName sc_shortest.nd (by kernel_rfl) (by kernel_rfl) (Or.inl rfl)) gNil' (by kernel_rfl)) (by kernel_rfl)) (by kernel_rfl)) (by kernel_rfl)) (by kernel_rfl) (by kernel_rfl)) (by kernel_rfl) (by kernel_rfl) (by kernel_rfl))
    (dSeq (dFor PassesOwn.leaving rfl (iEnum' rfl rfl (dVar 0 (by kernel_rfl) (by kernel_rfl) (by kernel_rfl) (by kernel_rfl)) (by kernel_rfl) fx.b_enumerate (by kernel_rfl) (by kernel_rfl)) (gTupD rfl rfl (gConsD (gName sc_shortest.nd (by kernel_rfl) (by kernel_rfl) (Or.inl rfl)) (gConsD (gName sc_shortest.nd (by kernel_rfl) (by kernel_rfl) (Or.inl rfl)) gNil' (by kernel_rfl)) (by kernel_rfl)) (by kernel_rfl) (by kernel_rfl))
    (dSeq (dSet (dCall (n := 2) rfl c_start_of hr (by decide) tk rfl (dCons (dVar 0 (by kernel_rfl) (by kernel_rfl) (by kernel_rfl) (by kernel_rfl)) (dCons (dAdd rfl (dVar 6 (by kernel_rfl) (by kernel_rfl) (by kernel_rfl) (by kernel_rfl)) dInt) dNil (by kernel_rfl)) (by kernel_rfl)) (al_cons (al_cons al_nil)) (by kernel_rfl) (by kernel_rfl) ⟨(by kernel_rfl), (by kernel_rfl)⟩) sc_shortest.nd (by kernel_rfl) (by kernel_rfl) (by kernel_rfl) (Or.inl rfl))
    (dSeq (dIf (qIsN (dVar 8 (by kernel_rfl) (by kernel_rfl) (by kernel_rfl) (by kernel_rfl)))
    (dOne (dSet (dAdd rfl (dIx rfl (dVar 7 (by kernel_rfl) (by kernel_rfl) (by kernel_rfl) (by kernel_rfl)) dInt (fun _ _ => rfl)) dInt) sc_shortest.nd (by kernel_rfl) (by kernel_rfl) (by kernel_rfl) (Or.inl rfl)))
    dSkip)
    (dSeq (dFor PassesOwn.leaving rfl (iRange2 (dCall (n := 2) rfl c_greater hr (by decide) tk rfl (dCons (dIx rfl (dVar 7 (by kernel_rfl) (by kernel_rfl) (by kernel_rfl) (by kernel_rfl)) dInt (fun _ _ => rfl)) (dCons dInt dNil (by kernel_rfl)) (by kernel_rfl)) (al_cons (al_cons al_nil)) (by kernel_rfl) (by kernel_rfl) ⟨(by kernel_rfl), (by kernel_rfl)⟩) (dCall (n := 2) rfl c_lesser hr (by decide) tk rfl (dCons (dVar 8 (by kernel_rfl) (by kernel_rfl) (by kernel_rfl) (by kernel_rfl)) (dCons (dAdd rfl (dIx rfl (dVar 7 (by kernel_rfl) (by kernel_rfl) (by kernel_rfl) (by kernel_rfl)) dInt (fun _ _ => rfl)) dInt) dNil (by kernel_rfl)) (by kernel_rfl)) (al_cons (al_cons al_nil)) (by kernel_rfl) (by kernel_rfl) ⟨(by kernel_rfl), (by kernel_rfl)⟩) fx.b_range (by kernel_rfl) (by kernel_rfl) (by kernel_rfl) (by kernel_rfl) (by kernel_rfl)) (gName sc_shortest.nd (by kernel_rfl) (by kernel_rfl) (Or.inl rfl))
    (dSeq (dSet (dCall (n := 2) rfl c_row_value hr (by decide) tk rfl (dCons (dVar 7 (by kernel_rfl) (by kernel_rfl) (by kernel_rfl) (by kernel_rfl)) (dCons (dVar 9 (by kernel_rfl) (by kernel_rfl) (by kernel_rfl) (by kernel_rfl)) dNil (by kernel_rfl)) (by kernel_rfl)) (al_cons (al_cons al_nil)) (by kernel_rfl) (by kernel_rfl) ⟨(by kernel_rfl), (by kernel_rfl)⟩) sc_shortest.nd (by kernel_rfl) (by kernel_rfl) (by kernel_rfl) (Or.inl rfl))
    (dSeq (dSet (dSub (dVar 10 (by kernel_rfl) (by kernel_rfl) (by kernel_rfl) (by kernel_rfl)) (dVar 5 (by kernel_rfl) (by kernel_rfl) (by kernel_rfl) (by kernel_rfl))) sc_shortest.nd (by kernel_rfl) (by kernel_rfl) (by kernel_rfl) (Or.inl rfl))
    (dSeq (dIf (qAnd' (qIsN (dVar 4 (by kernel_rfl) (by kernel_rfl) (by kernel_rfl) (by kernel_rfl))) (qAnd1 (qIn rfl (dVar 11 (by kernel_rfl) (by kernel_rfl) (by kernel_rfl) (by kernel_rfl)) (dTup (dCons dInt (dCons dInt dNil (by kernel_rfl)) (by kernel_rfl))) (by kernel_rfl))))
    (dOne (dSet (dVar 11 (by kernel_rfl) (by kernel_rfl) (by kernel_rfl) (by kernel_rfl)) sc_shortest.nd (by kernel_rfl) (by kernel_rfl) (by kernel_rfl) (Or.inl rfl)))
    (dOne (dIf (qNe 3 rfl (units64 hr) (dVar 11 (by kernel_rfl) (by kernel_rfl) (by kernel_rfl) (by kernel_rfl)) (dVar 4 (by kernel_rfl) (by kernel_rfl) (by kernel_rfl) (by kernel_rfl)))
    (dSeq (dExpr (dAppend (dVar 1 (by kernel_rfl) (by kernel_rfl) (by kernel_rfl) (by kernel_rfl)) (dTup (dCons (dVar 2 (by kernel_rfl) (by kernel_rfl) (by kernel_rfl) (by kernel_rfl)) (dCons (dVar 3 (by kernel_rfl) (by kernel_rfl) (by kernel_rfl) (by kernel_rfl)) (dCons (dEq 3 rfl (units64 hr) (dVar 4 (by kernel_rfl) (by kernel_rfl) (by kernel_rfl) (by kernel_rfl)) dInt) dNil (by kernel_rfl)) (by kernel_rfl)) (by kernel_rfl))) rfl (by kernel_rfl) (pe_bm PySem.F.plainAttrs_list PySem.F.slot_list_append PySem.F.type_list_append mt_append (dVar 1 (by kernel_rfl) (by kernel_rfl) (by kernel_rfl) (by kernel_rfl)) (dCons (dTup (dCons (dVar 2 (by kernel_rfl) (by kernel_rfl) (by kernel_rfl) (by kernel_rfl)) (dCons (dVar 3 (by kernel_rfl) (by kernel_rfl) (by kernel_rfl) (by kernel_rfl)) (dCons (dEq 3 rfl (units64 hr) (dVar 4 (by kernel_rfl) (by kernel_rfl) (by kernel_rfl) (by kernel_rfl)) dInt) dNil (by kernel_rfl)) (by kernel_rfl)) (by kernel_rfl))) dNil (by kernel_rfl)))) (by kernel_rfl))
    (dOne (dPar3 (i := 2) (j := 3) (l := 4) rfl sc_shortest.nd (by kernel_rfl) (by kernel_rfl) (by kernel_rfl) (by decide) (by decide) (by decide) rfl rfl rfl (dCons (dVar 9 (by kernel_rfl) (by kernel_rfl) (by kernel_rfl) (by kernel_rfl)) (dCons (dVar 10 (by kernel_rfl) (by kernel_rfl) (by kernel_rfl) (by kernel_rfl)) (dCons dNon dNil (by kernel_rfl)) (by kernel_rfl)) (by kernel_rfl)) (by kernel_rfl) (by kernel_rfl))))
    dSkip)))
    (dOne (dSet (dVar 10 (by kernel_rfl) (by kernel_rfl) (by kernel_rfl) (by kernel_rfl)) sc_shortest.nd (by kernel_rfl) (by kernel_rfl) (by kernel_rfl) (Or.inl rfl)))))) (fun _ => rfl))
    (dOne (dSet (dCall (n := 2) rfl c_row_value hr (by decide) tk rfl (dCons (dVar 7 (by kernel_rfl) (by kernel_rfl) (by kernel_rfl) (by kernel_rfl)) (dCons (dSub (dVar 8 (by kernel_rfl) (by kernel_rfl) (by kernel_rfl) (by kernel_rfl)) dInt) dNil (by kernel_rfl)) (by kernel_rfl)) (al_cons (al_cons al_nil)) (by kernel_rfl) (by kernel_rfl) ⟨(by kernel_rfl), (by kernel_rfl)⟩) sc_shortest.nd (by kernel_rfl) (by kernel_rfl) (by kernel_rfl) (Or.inl rfl)))))) (fun _ => rfl))
    (dSeq (dExpr (dAppend (dVar 1 (by kernel_rfl) (by kernel_rfl) (by kernel_rfl) (by kernel_rfl)) (dTup (dCons (dVar 2 (by kernel_rfl) (by kernel_rfl) (by kernel_rfl) (by kernel_rfl)) (dCons (dVar 3 (by kernel_rfl) (by kernel_rfl) (by kernel_rfl) (by kernel_rfl)) (dCons dBl dNil (by kernel_rfl)) (by kernel_rfl)) (by kernel_rfl))) rfl (by kernel_rfl) (pe_bm PySem.F.plainAttrs_list PySem.F.slot_list_append PySem.F.type_list_append mt_append (dVar 1 (by kernel_rfl) (by kernel_rfl) (by kernel_rfl) (by kernel_rfl)) (dCons (dTup (dCons (dVar 2 (by kernel_rfl) (by kernel_rfl) (by kernel_rfl) (by kernel_rfl)) (dCons (dVar 3 (by kernel_rfl) (by kernel_rfl) (by kernel_rfl) (by kernel_rfl)) (dCons dBl dNil (by kernel_rfl)) (by kernel_rfl)) (by kernel_rfl))) dNil (by kernel_rfl)))) (by kernel_rfl))
    (dOne (dRet (dTy (cTuple rfl) fTuple_ok fx.b_tuple (by kernel_rfl) (by kernel_rfl) (dCons (dVar 1 (by kernel_rfl) (by kernel_rfl) (by kernel_rfl) (by kernel_rfl)) dNil (by kernel_rfl)) (by decide +kernel) (by kernel_rfl) ⟨(by kernel_rfl), (by kernel_rfl)⟩)))))))
abbrev t_follows : Stmt := topS 15
theorem sc_follows : FnScope ["before", "start", "value", "last"] ["before", "start", "value"] (defScope t_follows) := ⟨rfl, rfl, rfl, by decide +kernel, rfl, by decide +kernel, by decide +kernel⟩
noncomputable def b_follows : MS :=
    (mSeq (mIf (mB (mOp oLe (mVar 1) (mOp oIx (mVar 0) (mC (.int 0)))))
    (mRet (mC (.bl false)))
    mSkip)
    (mSeq (mSet 3 (mCB m_row_value (mCons (mVar 0) (mCons (mOp oSub (mVar 1) (mC (.int 1))) mNil))))
    (mRet (mChain oLe oLe (mOp oSub (mVar 1) (mC (.int 1))) (mVar 3) (mVar 2)))))
noncomputable def m_follows : MF := mfun 3 4 b_follows
theorem ok_follows (fx : Fx G mg) (c_row_value : Callee P w G mg base "row_value" 1 ["row", "minute"] m_row_value) (F : Fun G.K "follows" "follows" t_follows f fd) : FnM P w G mg base 2 f fd ["before", "start", "value"] m_follows :=
  fn_M (k := 1) F sc_follows fun cdv A outer s H E hr tk => by
  exact (dSeq (dIf (qLe (dVar 1 (by kernel_rfl) (by kernel_rfl) (by kernel_rfl) (by kernel_rfl)) (dIx rfl (dVar 0 (by kernel_rfl) (by kernel_rfl) (by kernel_rfl) (by kernel_rfl)) dInt (fun _ _ => rfl)))
    (dOne (dRet dBl))
    dSkip)
    (dSeq (dSet (dCall (n := 2) rfl c_row_value hr (by decide) tk rfl (dCons (dVar 0 (by kernel_rfl) (by kernel_rfl) (by kernel_rfl) (by kernel_rfl)) (dCons (dSub (dVar 1 (by kernel_rfl) (by kernel_rfl) (by kernel_rfl) (by kernel_rfl)) dInt) dNil (by kernel_rfl)) (by kernel_rfl)) (al_cons (al_cons al_nil)) (by kernel_rfl) (by kernel_rfl) ⟨(by kernel_rfl), (by kernel_rfl)⟩) sc_follows.nd (by kernel_rfl) (by kernel_rfl) (by kernel_rfl) (Or.inl rfl))
    (dOne (dRet (dLeLe (dSub (dVar 1 (by kernel_rfl) (by kernel_rfl) (by kernel_rfl) (by kernel_rfl)) dInt) (dVar 3 (by kernel_rfl) (by kernel_rfl) (by kernel_rfl) (by kernel_rfl)) (dVar 2 (by kernel_rfl) (by kernel_rfl) (by kernel_rfl) (by kernel_rfl)) (by kernel_rfl))))))
abbrev t_is_integer : Stmt := topS 6
theorem sc_is_integer : FnScope ["value"] ["value"] (defScope t_is_integer) := ⟨rfl, rfl, rfl, by decide +kernel, rfl, by decide +kernel, by decide +kernel⟩
noncomputable def b_is_integer : MS :=
    (mRet (mAnd (mIsi tabInt (mVar 0)) (mNot (mIsi tabBool (mVar 0)))))
noncomputable def m_is_integer : MF := mfun 1 1 b_is_integer
theorem ok_is_integer (fx : Fx G mg) (F : Fun G.K "is_integer" "is_integer" t_is_integer f fd) : FnM P w G mg base 1 f fd ["value"] m_is_integer :=
  fn_M (k := 0) F sc_is_integer fun cdv A outer s H E hr tk => by
  exact (dOne (dRet (dAnd (dIsi rfl (isaTy isiInt (by kernel_rfl) fx.b_int (by kernel_rfl) (by decide +kernel) (by kernel_rfl)) (dVar 0 (by kernel_rfl) (by kernel_rfl) (by kernel_rfl) (by kernel_rfl)) fx.b_isinstance (by kernel_rfl) ⟨(by kernel_rfl), (by kernel_rfl)⟩ (by kernel_rfl)) (dAnd1 (dNot (dIsi rfl (isaTy isiBool (by kernel_rfl) fx.b_bool (by kernel_rfl) (by decide +kernel) (by kernel_rfl)) (dVar 0 (by kernel_rfl) (by kernel_rfl) (by kernel_rfl) (by kernel_rfl)) fx.b_isinstance (by kernel_rfl) ⟨(by kernel_rfl), (by kernel_rfl)⟩ (by kernel_rfl)))))))
abbrev t_is_good_row : Stmt := topS 16
theorem sc_is_good_row : FnScope ["rows", "place", "start", "value", "grows"] ["rows", "place"] (defScope t_is_good_row) := ⟨rfl, rfl, rfl, by decide +kernel, rfl, by decide +kernel, by decide +kernel⟩
noncomputable def b_is_good_row : MS :=
    (mSeq (mAsg (gT 3 (gC (gN 2) (gC (gN 3) (gC (gN 4) gE)))) (mOp oIx (mVar 0) (mVar 1)))
    (mSeq (mIf (mTOr (mTNot (mB (mCB m_is_integer (mCons (mVar 2) mNil)))) (mTOr (mTNot (mB (mCB m_is_integer (mCons (mVar 3) mNil)))) (mB (mOp oLt (mVar 3) (mVar 2)))))
    (mRet (mC (.bl false)))
    mSkip)
    (mSeq (mIf (mTAnd (mB (mOp (oEq 3) (mVar 1) (mOp oSub (mCB fLen (mCons (mVar 0) mNil)) (mC (.int 1))))) (mTNot (mB (mVar 4))))
    (mRet (mC (.bl false)))
    mSkip)
    (mSeq (mIf (mB (mOp (oEq 3) (mVar 1) (mC (.int 0))))
    (mRet (mOp (oEq 3) (mVar 2) (mC (.int 0))))
    mSkip)
    (mRet (mCB m_follows (mCons (mOp oIx (mVar 0) (mOp oSub (mVar 1) (mC (.int 1)))) (mCons (mVar 2) (mCons (mVar 3) mNil)))))))))
noncomputable def m_is_good_row : MF := mfun 2 5 b_is_good_row
theorem ok_is_good_row (fx : Fx G mg) (c_is_integer : Callee P w G mg base "is_integer" 1 ["value"] m_is_integer) (c_follows : Callee P w G mg base "follows" 2 ["before", "start", "value"] m_follows) (F : Fun G.K "is_good_row" "is_good_row" t_is_good_row f fd) : FnM P w G mg base 3 f fd ["rows", "place"] m_is_good_row :=
  fn_M (k := 2) F sc_is_good_row fun cdv A outer s H E hr tk => by
  exact (dSeq (dAsg (dIx rfl (dVar 0 (by kernel_rfl) (by kernel_rfl) (by kernel_rfl) (by kernel_rfl)) (dVar 1 (by kernel_rfl) (by kernel_rfl) (by kernel_rfl) (by kernel_rfl)) (fun _ _ => rfl)) (gTupD rfl rfl (gConsD (gName sc_is_good_row.nd (by kernel_rfl) (by kernel_rfl) (Or.inl rfl)) (gConsD (gName sc_is_good_row.nd (by kernel_rfl) (by kernel_rfl) (Or.inl rfl)) (gConsD (gName sc_is_good_row.nd (by kernel_rfl) (by kernel_rfl) (Or.inl rfl)) gNil' (by kernel_rfl)) (by kernel_rfl)) (by kernel_rfl)) (by kernel_rfl) (by kernel_rfl)) (by kernel_rfl) (by kernel_rfl) (by kernel_rfl))
    (dSeq (dIf (qOr' (qNot (qVal (dCall (n := 1) rfl c_is_integer hr (by decide) tk rfl (dCons (dVar 2 (by kernel_rfl) (by kernel_rfl) (by kernel_rfl) (by kernel_rfl)) dNil (by kernel_rfl)) (al_cons al_nil) (by kernel_rfl) (by kernel_rfl) ⟨(by kernel_rfl), (by kernel_rfl)⟩) (fun _ => rfl))) (qOr (qNot (qVal (dCall (n := 1) rfl c_is_integer hr (by decide) tk rfl (dCons (dVar 3 (by kernel_rfl) (by kernel_rfl) (by kernel_rfl) (by kernel_rfl)) dNil (by kernel_rfl)) (al_cons al_nil) (by kernel_rfl) (by kernel_rfl) ⟨(by kernel_rfl), (by kernel_rfl)⟩) (fun _ => rfl))) (qOr1 (qLt (dVar 3 (by kernel_rfl) (by kernel_rfl) (by kernel_rfl) (by kernel_rfl)) (dVar 2 (by kernel_rfl) (by kernel_rfl) (by kernel_rfl) (by kernel_rfl))))))
    (dOne (dRet dBl))
    dSkip)
    (dSeq (dIf (qAnd' (qEq 3 rfl (units64 hr) (dVar 1 (by kernel_rfl) (by kernel_rfl) (by kernel_rfl) (by kernel_rfl)) (dSub (dB (cLen rfl) fLen_ok fx.b_len (by kernel_rfl) (by kernel_rfl) (dCons (dVar 0 (by kernel_rfl) (by kernel_rfl) (by kernel_rfl) (by kernel_rfl)) dNil (by kernel_rfl)) (by decide +kernel) (by kernel_rfl) ⟨(by kernel_rfl), (by kernel_rfl)⟩) dInt)) (qAnd1 (qNot (qVal (dVar 4 (by kernel_rfl) (by kernel_rfl) (by kernel_rfl) (by kernel_rfl)) (fun _ => rfl)))))
    (dOne (dRet dBl))
    dSkip)
    (dSeq (dIf (qEq 3 rfl (units64 hr) (dVar 1 (by kernel_rfl) (by kernel_rfl) (by kernel_rfl) (by kernel_rfl)) dInt)
    (dOne (dRet (dEq 3 rfl (units64 hr) (dVar 2 (by kernel_rfl) (by kernel_rfl) (by kernel_rfl) (by kernel_rfl)) dInt)))
    dSkip)
    (dOne (dRet (dCall (n := 3) rfl c_follows hr (by decide) tk rfl (dCons (dIx rfl (dVar 0 (by kernel_rfl) (by kernel_rfl) (by kernel_rfl) (by kernel_rfl)) (dSub (dVar 1 (by kernel_rfl) (by kernel_rfl) (by kernel_rfl) (by kernel_rfl)) dInt) (fun _ _ => rfl)) (dCons (dVar 2 (by kernel_rfl) (by kernel_rfl) (by kernel_rfl) (by kernel_rfl)) (dCons (dVar 3 (by kernel_rfl) (by kernel_rfl) (by kernel_rfl) (by kernel_rfl)) dNil (by kernel_rfl)) (by kernel_rfl)) (by kernel_rfl)) (al_cons (al_cons (al_cons al_nil))) (by kernel_rfl) (by kernel_rfl) ⟨(by kernel_rfl), (by kernel_rfl)⟩)))))))
abbrev t_check_rows : Stmt := topS 17
theorem sc_check_rows : FnScope ["rows", "place"] ["rows"] (defScope t_check_rows) := ⟨rfl, rfl, rfl, by decide +kernel, rfl, by decide +kernel, by decide +kernel⟩
noncomputable def b_check_rows : MS :=
    (mSeq (mIf (mB (mOp (oEq 3) (mCB fLen (mCons (mVar 0) mNil)) (mC (.int 0))))
    (mRaise 2 (mk1 ("place" : Str)) (mCons (mC (.int 0)) mNil))
    mSkip)
    (mSeq (mFor (iR1 (mCB fLen (mCons (mVar 0) mNil))) (gN 1)
    (mIf (mTNot (mB (mCB m_is_good_row (mCons (mVar 0) (mCons (mVar 1) mNil)))))
    (mRaise 2 (mk1 ("place" : Str)) (mCons (mVar 1) mNil))
    mSkip))
    (mRet (mVar 0))))
noncomputable def m_check_rows : MF := mfun 1 2 b_check_rows
theorem ok_check_rows (fx : Fx G mg) (c_is_good_row : Callee P w G mg base "is_good_row" 3 ["rows", "place"] m_is_good_row) (e_BadRows : OwnErr P w G mg base "BadRows" 1 2 1 (mk1 ("place" : Str))) (F : Fun G.K "check_rows" "check_rows" t_check_rows f fd) : FnM P w G mg base 4 f fd ["rows"] m_check_rows :=
  fn_M (k := 3) F sc_check_rows fun cdv A outer s H E hr tk => by
  exact (dSeq (dIf (qEq 3 rfl (units64 hr) (dB (cLen rfl) fLen_ok fx.b_len (by kernel_rfl) (by kernel_rfl) (dCons (dVar 0 (by kernel_rfl) (by kernel_rfl) (by kernel_rfl) (by kernel_rfl)) dNil (by kernel_rfl)) (by decide +kernel) (by kernel_rfl) ⟨(by kernel_rfl), (by kernel_rfl)⟩) dInt)
    (dOne (dRaise (n := 1) rfl e_BadRows hr (by decide) tk rfl (dCons dInt dNil (by kernel_rfl)) (al_cons al_nil) (by decide) (by kernel_rfl) (by kernel_rfl) ⟨(by kernel_rfl), (by kernel_rfl)⟩))
    dSkip)
    (dSeq (dFor PassesOwn.leaving rfl (iRange1 (dB (cLen rfl) fLen_ok fx.b_len (by kernel_rfl) (by kernel_rfl) (dCons (dVar 0 (by kernel_rfl) (by kernel_rfl) (by kernel_rfl) (by kernel_rfl)) dNil (by kernel_rfl)) (by decide +kernel) (by kernel_rfl) ⟨(by kernel_rfl), (by kernel_rfl)⟩) fx.b_range (by kernel_rfl) (by kernel_rfl) (by kernel_rfl)) (gName sc_check_rows.nd (by kernel_rfl) (by kernel_rfl) (Or.inl rfl))
    (dOne (dIf (qNot (qVal (dCall (n := 2) rfl c_is_good_row hr (by decide) tk rfl (dCons (dVar 0 (by kernel_rfl) (by kernel_rfl) (by kernel_rfl) (by kernel_rfl)) (dCons (dVar 1 (by kernel_rfl) (by kernel_rfl) (by kernel_rfl) (by kernel_rfl)) dNil (by kernel_rfl)) (by kernel_rfl)) (al_cons (al_cons al_nil)) (by kernel_rfl) (by kernel_rfl) ⟨(by kernel_rfl), (by kernel_rfl)⟩) (fun _ => rfl)))
    (dOne (dRaise (n := 1) rfl e_BadRows hr (by decide) tk rfl (dCons (dVar 1 (by kernel_rfl) (by kernel_rfl) (by kernel_rfl) (by kernel_rfl)) dNil (by kernel_rfl)) (al_cons al_nil) (by decide) (by kernel_rfl) (by kernel_rfl) ⟨(by kernel_rfl), (by kernel_rfl)⟩))
    dSkip)) (fun _ => rfl))
    (dOne (dRet (dVar 0 (by kernel_rfl) (by kernel_rfl) (by kernel_rfl) (by kernel_rfl))))))
abbrev t_Rising___init__ : Stmt := inClass (topS 26) 0
theorem sc_Rising___init__ : FnScope ["self", "rows"] ["self", "rows"] (defScope t_Rising___init__) := ⟨rfl, rfl, rfl, by decide +kernel, rfl, by decide +kernel, by decide +kernel⟩
noncomputable def b_Rising___init__ : MS :=
    (mSetAt ("rows" : Str) at_rows_i (mVar 0) (mCB m_shortest (mCons (mCB m_check_rows (mCons (mCB fList (mCons (mVar 1) mNil)) mNil)) mNil)))
noncomputable def m_Rising___init__ : MF := mfun 2 2 b_Rising___init__
theorem ok_Rising___init__ (fx : Fx G mg) (c_check_rows : Callee P w G mg base "check_rows" 4 ["rows"] m_check_rows) (c_shortest : Callee P w G mg base "shortest" 2 ["rows"] m_shortest) (F : Fun G.K "__init__" "Rising.__init__" t_Rising___init__ f fd) : FnM P w G mg base 5 f fd ["self", "rows"] m_Rising___init__ :=
  fn_M (k := 4) F sc_Rising___init__ fun cdv A outer s H E hr tk => by
  exact (dOne (dSetAt rfl fx.s_rows (dCall (n := 1) rfl c_shortest hr (by decide) tk rfl (dCons (dCall (n := 1) rfl c_check_rows hr (by decide) tk rfl (dCons (dTy (cList rfl) fList_ok fx.b_list (by kernel_rfl) (by kernel_rfl) (dCons (dVar 1 (by kernel_rfl) (by kernel_rfl) (by kernel_rfl) (by kernel_rfl)) dNil (by kernel_rfl)) (by decide +kernel) (by kernel_rfl) ⟨(by kernel_rfl), (by kernel_rfl)⟩) dNil (by kernel_rfl)) (al_cons al_nil) (by kernel_rfl) (by kernel_rfl) ⟨(by kernel_rfl), (by kernel_rfl)⟩) dNil (by kernel_rfl)) (al_cons al_nil) (by kernel_rfl) (by kernel_rfl) ⟨(by kernel_rfl), (by kernel_rfl)⟩) (dVar 0 (by kernel_rfl) (by kernel_rfl) (by kernel_rfl) (by kernel_rfl)) (by kernel_rfl)))
abbrev t_check_integer : Stmt := topS 7
theorem sc_check_integer : FnScope ["what", "value"] ["what", "value"] (defScope t_check_integer) := ⟨rfl, rfl, rfl, by decide +kernel, rfl, by decide +kernel, by decide +kernel⟩
noncomputable def b_check_integer : MS :=
    (mSeq (mIf (mTNot (mB (mCB m_is_integer (mCons (mVar 1) mNil))))
    (mRaise 1 (mk2s ("what" : Str) ("value" : Str)) (mCons (mVar 0) (mCons (mVar 1) mNil)))
    mSkip)
    (mRet (mVar 1)))
noncomputable def m_check_integer : MF := mfun 2 2 b_check_integer
theorem ok_check_integer (fx : Fx G mg) (c_is_integer : Callee P w G mg base "is_integer" 1 ["value"] m_is_integer) (e_BadNumber : OwnErr P w G mg base "BadNumber" 1 1 2 (mk2s ("what" : Str) ("value" : Str))) (F : Fun G.K "check_integer" "check_integer" t_check_integer f fd) : FnM P w G mg base 3 f fd ["what", "value"] m_check_integer :=
  fn_M (k := 2) F sc_check_integer fun cdv A outer s H E hr tk => by
  exact (dSeq (dIf (qNot (qVal (dCall (n := 1) rfl c_is_integer hr (by decide) tk rfl (dCons (dVar 1 (by kernel_rfl) (by kernel_rfl) (by kernel_rfl) (by kernel_rfl)) dNil (by kernel_rfl)) (al_cons al_nil) (by kernel_rfl) (by kernel_rfl) ⟨(by kernel_rfl), (by kernel_rfl)⟩) (fun _ => rfl)))
    (dOne (dRaise (n := 2) rfl e_BadNumber hr (by decide) tk rfl (dCons (dVar 0 (by kernel_rfl) (by kernel_rfl) (by kernel_rfl) (by kernel_rfl)) (dCons (dVar 1 (by kernel_rfl) (by kernel_rfl) (by kernel_rfl) (by kernel_rfl)) dNil (by kernel_rfl)) (by kernel_rfl)) (al_cons (al_cons al_nil)) (by decide) (by kernel_rfl) (by kernel_rfl) ⟨(by kernel_rfl), (by kernel_rfl)⟩))
    dSkip)
    (dOne (dRet (dVar 1 (by kernel_rfl) (by kernel_rfl) (by kernel_rfl) (by kernel_rfl)))))
abbrev t_check_number : Stmt := topS 8
theorem sc_check_number : FnScope ["what", "value", "low", "high"] ["what", "value", "low", "high"] (defScope t_check_number) := ⟨rfl, rfl, rfl, by decide +kernel, rfl, by decide +kernel, by decide +kernel⟩
noncomputable def b_check_number : MS :=
    (mSeq (mDrop (mCB m_check_integer (mCons (mVar 0) (mCons (mVar 1) mNil))))
    (mSeq (mIf (mTOr (mB (mOp oLt (mVar 1) (mVar 2))) (mTAnd (mB (mIsN true (mVar 3))) (mB (mOp oGt (mVar 1) (mVar 3)))))
    (mRaise 1 (mk2s ("what" : Str) ("value" : Str)) (mCons (mVar 0) (mCons (mVar 1) mNil)))
    mSkip)
    (mRet (mVar 1))))
noncomputable def m_check_number : MF := mfun 4 4 b_check_number
theorem ok_check_number (fx : Fx G mg) (c_check_integer : Callee P w G mg base "check_integer" 3 ["what", "value"] m_check_integer) (e_BadNumber : OwnErr P w G mg base "BadNumber" 1 1 2 (mk2s ("what" : Str) ("value" : Str))) (F : Fun G.K "check_number" "check_number" t_check_number f fd) : FnM P w G mg base 4 f fd ["what", "value", "low", "high"] m_check_number :=
  fn_M (k := 3) F sc_check_number fun cdv A outer s H E hr tk => by
  exact (dSeq (dExpr (dCall (n := 2) rfl c_check_integer hr (by decide) tk rfl (dCons (dVar 0 (by kernel_rfl) (by kernel_rfl) (by kernel_rfl) (by kernel_rfl)) (dCons (dVar 1 (by kernel_rfl) (by kernel_rfl) (by kernel_rfl) (by kernel_rfl)) dNil (by kernel_rfl)) (by kernel_rfl)) (al_cons (al_cons al_nil)) (by kernel_rfl) (by kernel_rfl) ⟨(by kernel_rfl), (by kernel_rfl)⟩) (by kernel_rfl))
    (dSeq (dIf (qOr' (qLt (dVar 1 (by kernel_rfl) (by kernel_rfl) (by kernel_rfl) (by kernel_rfl)) (dVar 2 (by kernel_rfl) (by kernel_rfl) (by kernel_rfl) (by kernel_rfl))) (qOr1 (qAnd' (qNotN (dVar 3 (by kernel_rfl) (by kernel_rfl) (by kernel_rfl) (by kernel_rfl))) (qAnd1 (qGt (dVar 1 (by kernel_rfl) (by kernel_rfl) (by kernel_rfl) (by kernel_rfl)) (dVar 3 (by kernel_rfl) (by kernel_rfl) (by kernel_rfl) (by kernel_rfl)))))))
    (dOne (dRaise (n := 2) rfl e_BadNumber hr (by decide) tk rfl (dCons (dVar 0 (by kernel_rfl) (by kernel_rfl) (by kernel_rfl) (by kernel_rfl)) (dCons (dVar 1 (by kernel_rfl) (by kernel_rfl) (by kernel_rfl) (by kernel_rfl)) dNil (by kernel_rfl)) (by kernel_rfl)) (al_cons (al_cons al_nil)) (by decide) (by kernel_rfl) (by kernel_rfl) ⟨(by kernel_rfl), (by kernel_rfl)⟩))
    dSkip)
    (dOne (dRet (dVar 1 (by kernel_rfl) (by kernel_rfl) (by kernel_rfl) (by kernel_rfl))))))
abbrev t_stretches : Stmt := topS 24
theorem sc_stretches : FnScope ["rows", "found", "place", "start", "value", "grows", "first", "last"] ["rows"] (defScope t_stretches) := ⟨rfl, rfl, rfl, by decide +kernel, rfl, by decide +kernel, by decide +kernel⟩
noncomputable def b_stretches : MS :=
    (mSeq (mSet 1 (mLst mNil))
    (mSeq (mFor (iEnA (mVar 0)) (gT 2 (gC (gN 2) (gC (gT 3 (gC (gN 3) (gC (gN 4) (gC (gN 5) gE)))) gE)))
    (mSeq (mSet 6 (mVar 3))
    (mSeq (mIf (mTAnd (mB (mOp oGt (mVar 2) (mC (.int 0)))) (mB (mOp (oEq 3) (mCB m_row_value (mCons (mOp oIx (mVar 0) (mOp oSub (mVar 2) (mC (.int 1)))) (mCons (mOp oSub (mVar 3) (mC (.int 1))) mNil))) (mVar 4))))
    (mSet 6 (mOp oSub (mVar 3) (mC (.int 1))))
    mSkip)
    (mSeq (mSet 7 (mIfE (mB (mVar 5)) (mVar 3) (mOp oSub (mOp oIx (mOp oIx (mVar 0) (mOp oAdd (mVar 2) (mC (.int 1)))) (mC (.int 0))) (mC (.int 1)))))
    (mDrop (mBM kList fAppend (mVar 1) (mCons (mTup (mCons (mVar 6) (mCons (mVar 7) mNil))) mNil)))))))
    (mRet (mVar 1))))
noncomputable def m_stretches : MF := mfun 1 8 b_stretches
theorem ok_stretches (fx : Fx G mg) (c_row_value : Callee P w G mg base "row_value" 1 ["row", "minute"] m_row_value) (F : Fun G.K "stretches" "stretches" t_stretches f fd) : FnM P w G mg base 2 f fd ["rows"] m_stretches :=
  fn_M (k := 1) F sc_stretches fun cdv A outer s H E hr tk => by
  exact (dSeq (dSet (dLst dNil) sc_stretches.nd (by kernel_rfl) (by kernel_rfl) (by kernel_rfl) (Or.inl rfl))
    (dSeq (dFor PassesOwn.leaving rfl (iEnum' rfl rfl (dVar 0 (by kernel_rfl) (by kernel_rfl) (by kernel_rfl) (by kernel_rfl)) (by kernel_rfl) fx.b_enumerate (by kernel_rfl) (by kernel_rfl)) (gTupD rfl rfl (gConsD (gName sc_stretches.nd (by kernel_rfl) (by kernel_rfl) (Or.inl rfl)) (gConsD (gTupD rfl rfl (gConsD (gName sc_stretches.nd (by kernel_rfl) (by kernel_rfl) (Or.inl rfl)) (gConsD (gName sc_stretches.nd (by kernel_rfl) (by kernel_rfl) (Or.inl rfl)) (gConsD (gName sc_stretches.nd (by kernel_rfl) (by kernel_rfl) (Or.inl rfl)) gNil' (by kernel_rfl)) (by kernel_rfl)) (by kernel_rfl)) (by kernel_rfl) (by kernel_rfl)) gNil' (by kernel_rfl)) (by kernel_rfl)) (by kernel_rfl) (by kernel_rfl))
    (dSeq (dSet (dVar 3 (by kernel_rfl) (by kernel_rfl) (by kernel_rfl) (by kernel_rfl)) sc_stretches.nd (by kernel_rfl) (by kernel_rfl) (by kernel_rfl) (Or.inl rfl))
    (dSeq (dIf (qAnd' (qGt (dVar 2 (by kernel_rfl) (by kernel_rfl) (by kernel_rfl) (by kernel_rfl)) dInt) (qAnd1 (qEq 3 rfl (units64 hr) (dCall (n := 2) rfl c_row_value hr (by decide) tk rfl (dCons (dIx rfl (dVar 0 (by kernel_rfl) (by kernel_rfl) (by kernel_rfl) (by kernel_rfl)) (dSub (dVar 2 (by kernel_rfl) (by kernel_rfl) (by kernel_rfl) (by kernel_rfl)) dInt) (fun _ _ => rfl)) (dCons (dSub (dVar 3 (by kernel_rfl) (by kernel_rfl) (by kernel_rfl) (by kernel_rfl)) dInt) dNil (by kernel_rfl)) (by kernel_rfl)) (al_cons (al_cons al_nil)) (by kernel_rfl) (by kernel_rfl) ⟨(by kernel_rfl), (by kernel_rfl)⟩) (dVar 4 (by kernel_rfl) (by kernel_rfl) (by kernel_rfl) (by kernel_rfl)))))
    (dOne (dSet (dSub (dVar 3 (by kernel_rfl) (by kernel_rfl) (by kernel_rfl) (by kernel_rfl)) dInt) sc_stretches.nd (by kernel_rfl) (by kernel_rfl) (by kernel_rfl) (Or.inl rfl)))
    dSkip)
    (dSeq (dSet (dIfE (qVal (dVar 5 (by kernel_rfl) (by kernel_rfl) (by kernel_rfl) (by kernel_rfl)) (fun _ => rfl)) (dVar 3 (by kernel_rfl) (by kernel_rfl) (by kernel_rfl) (by kernel_rfl)) (dSub (dIx rfl (dIx rfl (dVar 0 (by kernel_rfl) (by kernel_rfl) (by kernel_rfl) (by kernel_rfl)) (dAdd rfl (dVar 2 (by kernel_rfl) (by kernel_rfl) (by kernel_rfl) (by kernel_rfl)) dInt) (fun _ _ => rfl)) dInt (fun _ _ => rfl)) dInt)) sc_stretches.nd (by kernel_rfl) (by kernel_rfl) (by kernel_rfl) (Or.inl rfl))
    (dOne (dExpr (dAppend (dVar 1 (by kernel_rfl) (by kernel_rfl) (by kernel_rfl) (by kernel_rfl)) (dTup (dCons (dVar 6 (by kernel_rfl) (by kernel_rfl) (by kernel_rfl) (by kernel_rfl)) (dCons (dVar 7 (by kernel_rfl) (by kernel_rfl) (by kernel_rfl) (by kernel_rfl)) dNil (by kernel_rfl)) (by kernel_rfl))) rfl (by kernel_rfl) (pe_bm PySem.F.plainAttrs_list PySem.F.slot_list_append PySem.F.type_list_append mt_append (dVar 1 (by kernel_rfl) (by kernel_rfl) (by kernel_rfl) (by kernel_rfl)) (dCons (dTup (dCons (dVar 6 (by kernel_rfl) (by kernel_rfl) (by kernel_rfl) (by kernel_rfl)) (dCons (dVar 7 (by kernel_rfl) (by kernel_rfl) (by kernel_rfl) (by kernel_rfl)) dNil (by kernel_rfl)) (by kernel_rfl))) dNil (by kernel_rfl)))) (by kernel_rfl)))))) (fun _ => rfl))
    (dOne (dRet (dVar 1 (by kernel_rfl) (by kernel_rfl) (by kernel_rfl) (by kernel_rfl))))))
abbrev t_Rising_levels : Stmt := inClass (topS 26) 6
theorem sc_Rising_levels : FnScope ["self", "least", "first", "last"] ["self", "least"] (defScope t_Rising_levels) := ⟨rfl, rfl, rfl, by decide +kernel, rfl, by decide +kernel, by decide +kernel⟩
noncomputable def b_Rising_levels : MS :=
    (mSeq (mDrop (mCB m_check_number (mCons (mC (.str ("least" : Str))) (mCons (mVar 1) (mCons (mC (.int 2)) (mCons (mC .non) mNil))))))
    (mRet (mLc (iSeq (mCB m_stretches (mCons (mAttrX ("rows" : Str) at_rows_i at_rows_e (mVar 0)) mNil))) (NT.tup [2, 3]) (mB (mOp oGe (mOp oAdd (mOp oSub (mVar 3) (mVar 2)) (mC (.int 1))) (mVar 1))) (mTup (mCons (mVar 2) (mCons (mVar 3) mNil))) ([(("first" : Str), 2), (("last" : Str), 3)].map (·.2)))))
noncomputable def m_Rising_levels : MF := mfun 2 4 b_Rising_levels
theorem ok_Rising_levels (fx : Fx G mg) (c_check_number : Callee P w G mg base "check_number" 4 ["what", "value", "low", "high"] m_check_number) (c_stretches : Callee P w G mg base "stretches" 2 ["rows"] m_stretches) (F : Fun G.K "levels" "Rising.levels" t_Rising_levels f fd) : FnM P w G mg base 5 f fd ["self", "least"] m_Rising_levels :=
  fn_M (k := 4) F sc_Rising_levels fun cdv A outer s H E hr tk => by
  exact (dSeq (dExpr (dCall (n := 4) rfl c_check_number hr (by decide) tk rfl (dCons dStr (dCons (dVar 1 (by kernel_rfl) (by kernel_rfl) (by kernel_rfl) (by kernel_rfl)) (dCons dInt (dCons dNon dNil (by kernel_rfl)) (by kernel_rfl)) (by kernel_rfl)) (by kernel_rfl)) (al_cons (al_cons (al_cons (al_cons al_nil)))) (by kernel_rfl) (by kernel_rfl) ⟨(by kernel_rfl), (by kernel_rfl)⟩) (by kernel_rfl))
    (dOne (dRet (dLc (own := [(("first" : Str), 2), (("last" : Str), 3)]) (NT.tup [2, 3]) rfl rfl sc_Rising_levels.nd (iSeq' rfl (dCall (n := 1) rfl c_stretches hr (by decide) tk rfl (dCons (dAttr rfl fx.a_rows (dVar 0 (by kernel_rfl) (by kernel_rfl) (by kernel_rfl) (by kernel_rfl)) (by kernel_rfl)) dNil (by kernel_rfl)) (al_cons al_nil) (by kernel_rfl) (by kernel_rfl) ⟨(by kernel_rfl), (by kernel_rfl)⟩)) (blkOk_by (N := ["self", "least", "first", "last"]) (sc := defScope t_Rising_levels) (by decide +kernel)) (fun _ _ _ _ _ => ntTup2 rfl rfl (ntOne sc_Rising_levels.nd (by kernel_rfl) (by kernel_rfl) (Or.inr (by kernel_rfl))) (ntOne sc_Rising_levels.nd (by kernel_rfl) (by kernel_rfl) (Or.inr (by kernel_rfl)))) (fun _ _ _ _ _ => dIf1 (qGe (dAdd rfl (dSub (dVar 3 (by kernel_rfl) (by kernel_rfl) (by kernel_rfl) (by kernel_rfl)) (dVar 2 (by kernel_rfl) (by kernel_rfl) (by kernel_rfl) (by kernel_rfl))) dInt) (dVar 1 (by kernel_rfl) (by kernel_rfl) (by kernel_rfl) (by kernel_rfl)))) (fun _ _ _ _ _ => (dTup (dCons (dVar 2 (by kernel_rfl) (by kernel_rfl) (by kernel_rfl) (by kernel_rfl)) (dCons (dVar 3 (by kernel_rfl) (by kernel_rfl) (by kernel_rfl) (by kernel_rfl)) dNil (by kernel_rfl)) (by kernel_rfl)))) (by decide +kernel) (fun _ => rfl)))))
abbrev t__law_start : Stmt := topS 28
theorem sc__law_start : FnScope ["_law_script", "_law_first"] ["_law_script"] (defScope t__law_start) := ⟨rfl, rfl, rfl, by decide +kernel, rfl, by decide +kernel, by decide +kernel⟩
noncomputable def b__law_start : MS :=
    (mSeq (mSet 1 (mC (.int 0)))
    (mSeq (mIf (mB (mOp oGt (mCB fLen (mCons (mVar 0) mNil)) (mC (.int 0))))
    (mSet 1 (mOp oIx (mVar 0) (mC (.int 0))))
    mSkip)
    (mRet (mLst (mCons (mCB fAbs (mCons (mCB fIntA2 (mCons (mVar 1) mNil)) mNil)) (mCons (mCB fIntA2 (mCons (mOp oGe (mCB fAbs (mCons (mCB fIntA2 (mCons (mVar 1) mNil)) mNil)) (mOp oPow (mC (.int 10)) (mC (.int 18)))) mNil)) (mCons (mC (.int 1)) (mCons (mC (.int 0)) mNil))))))))
noncomputable def m__law_start : MF := mfun 1 2 b__law_start
theorem ok__law_start (fx : Fx G mg) (F : Fun G.K "_law_start" "_law_start" t__law_start f fd) : FnM P w G mg base 1 f fd ["_law_script"] m__law_start :=
  fn_M (k := 0) F sc__law_start fun cdv A outer s H E hr tk => by
  exact (dSeq (dSet dInt sc__law_start.nd (by kernel_rfl) (by kernel_rfl) (by kernel_rfl) (Or.inl rfl))
    (dSeq (dIf (qGt (dB (cLen rfl) fLen_ok fx.b_len (by kernel_rfl) (by kernel_rfl) (dCons (dVar 0 (by kernel_rfl) (by kernel_rfl) (by kernel_rfl) (by kernel_rfl)) dNil (by kernel_rfl)) (by decide +kernel) (by kernel_rfl) ⟨(by kernel_rfl), (by kernel_rfl)⟩) dInt)
    (dOne (dSet (dIx rfl (dVar 0 (by kernel_rfl) (by kernel_rfl) (by kernel_rfl) (by kernel_rfl)) dInt (fun _ _ => rfl)) sc__law_start.nd (by kernel_rfl) (by kernel_rfl) (by kernel_rfl) (Or.inl rfl)))
    dSkip)
    (dOne (dRet (dLst (dCons (dB cAbs fAbs_ok fx.b_abs (by kernel_rfl) (by kernel_rfl) (dCons (dTy cInt fIntA_ok fx.b_int (by kernel_rfl) (by kernel_rfl) (dCons (dVar 1 (by kernel_rfl) (by kernel_rfl) (by kernel_rfl) (by kernel_rfl)) dNil (by kernel_rfl)) (by decide +kernel) (by kernel_rfl) ⟨(by kernel_rfl), (by kernel_rfl)⟩) dNil (by kernel_rfl)) (by decide +kernel) (by kernel_rfl) ⟨(by kernel_rfl), (by kernel_rfl)⟩) (dCons (dTy cInt fIntA_ok fx.b_int (by kernel_rfl) (by kernel_rfl) (dCons (dGe (dB cAbs fAbs_ok fx.b_abs (by kernel_rfl) (by kernel_rfl) (dCons (dTy cInt fIntA_ok fx.b_int (by kernel_rfl) (by kernel_rfl) (dCons (dVar 1 (by kernel_rfl) (by kernel_rfl) (by kernel_rfl) (by kernel_rfl)) dNil (by kernel_rfl)) (by decide +kernel) (by kernel_rfl) ⟨(by kernel_rfl), (by kernel_rfl)⟩) dNil (by kernel_rfl)) (by decide +kernel) (by kernel_rfl) ⟨(by kernel_rfl), (by kernel_rfl)⟩) (dPow dInt dInt)) dNil (by kernel_rfl)) (by decide +kernel) (by kernel_rfl) ⟨(by kernel_rfl), (by kernel_rfl)⟩) (dCons dInt (dCons dInt dNil (by kernel_rfl)) (by kernel_rfl)) (by kernel_rfl)) (by kernel_rfl)))))))
abbrev t__law_draw : Stmt := topS 29
theorem sc__law_draw : FnScope ["_law_script", "_law_state", "_law_limit", "_law_number", "_law_cell", "_law_mixed"] ["_law_script", "_law_state", "_law_limit"] (defScope t__law_draw) := ⟨rfl, rfl, rfl, by decide +kernel, rfl, by decide +kernel, by decide +kernel⟩
noncomputable def b__law_draw : MS :=
    (mSeq (mSetIx (mOp oAdd (mOp oIx (mVar 1) (mC (.int 3))) (mC (.int 1))) (mVar 1) (mC (.int 3)))
    (mSeq (mIf (mTAnd (mB (mOp (oEq 3) (mOp oIx (mVar 1) (mC (.int 1))) (mC (.int 1)))) (mB (mOp oGt (mOp oIx (mVar 1) (mC (.int 0))) (mC (.int 0)))))
    (mSeq (mSet 3 (mOp oMod (mCB fIntA2 (mCons (mOp oIx (mVar 1) (mC (.int 0))) mNil)) (mVar 2)))
    (mSeq (mSetIx (mOp oDiv (mOp oIx (mVar 1) (mC (.int 0))) (mVar 2)) (mVar 1) (mC (.int 0)))
    (mRet (mVar 3))))
    mSkip)
    (mSeq (mSetIx (mC (.int 0)) (mVar 1) (mC (.int 1)))
    (mSeq (mSet 4 (mC (.int 0)))
    (mSeq (mIf (mB (mOp oGt (mCB fLen (mCons (mVar 0) mNil)) (mC (.int 0))))
    (mSet 4 (mOp oIx (mVar 0) (mOp oMod (mCB fIntA2 (mCons (mOp oIx (mVar 1) (mC (.int 2))) mNil)) (mCB fLen (mCons (mVar 0) mNil)))))
    mSkip)
    (mSeq (mSetIx (mOp oAdd (mOp oIx (mVar 1) (mC (.int 2))) (mC (.int 1))) (mVar 1) (mC (.int 2)))
    (mSeq (mSet 5 (mOp oMulA (mOp oMod (mCB fIntA2 (mCons (mOp oIx (mVar 1) (mC (.int 0))) mNil)) (mC (.int 2147483647))) (mC (.int 48271))))
    (mSeq (mSet 5 (mOp oAdd (mOp oAdd (mOp oAdd (mVar 5) (mOp oMod (mCB fIntA2 (mCons (mVar 4) mNil)) (mC (.int 2147483629)))) (mOp oMulA (mC (.int 7)) (mOp oIx (mVar 1) (mC (.int 3))))) (mC (.int 11))))
    (mSeq (mSetIx (mOp oMod (mCB fIntA2 (mCons (mVar 5) mNil)) (mC (.int 2147483647))) (mVar 1) (mC (.int 0)))
    (mSeq (mSet 5 (mOp oMod (mCB fIntA2 (mCons (mOp oAdd (mOp oMulA (mOp oIx (mVar 1) (mC (.int 0))) (mC (.int 69621))) (mOp oIx (mVar 1) (mC (.int 3)))) mNil)) (mC (.int 2147483629))))
    (mRet (mOp oMod (mCB fIntA2 (mCons (mOp oDiv (mVar 5) (mC (.int 13))) mNil)) (mVar 2)))))))))))))
noncomputable def m__law_draw : MF := mfun 3 6 b__law_draw
theorem ok__law_draw (fx : Fx G mg) (F : Fun G.K "_law_draw" "_law_draw" t__law_draw f fd) : FnM P w G mg base 1 f fd ["_law_script", "_law_state", "_law_limit"] m__law_draw :=
  fn_M (k := 0) F sc__law_draw fun cdv A outer s H E hr tk => by
  exact (dSeq (dSetIx (dAdd rfl (dIx rfl (dVar 1 (by kernel_rfl) (by kernel_rfl) (by kernel_rfl) (by kernel_rfl)) dInt (fun _ _ => rfl)) dInt) (dVar 1 (by kernel_rfl) (by kernel_rfl) (by kernel_rfl) (by kernel_rfl)) dInt (by kernel_rfl) (by kernel_rfl) (fun _ => rfl) rfl)
    (dSeq (dIf (qAnd' (qEq 3 rfl (units64 hr) (dIx rfl (dVar 1 (by kernel_rfl) (by kernel_rfl) (by kernel_rfl) (by kernel_rfl)) dInt (fun _ _ => rfl)) dInt) (qAnd1 (qGt (dIx rfl (dVar 1 (by kernel_rfl) (by kernel_rfl) (by kernel_rfl) (by kernel_rfl)) dInt (fun _ _ => rfl)) dInt)))
    (dSeq (dSet (dMod (dTy cInt fIntA_ok fx.b_int (by kernel_rfl) (by kernel_rfl) (dCons (dIx rfl (dVar 1 (by kernel_rfl) (by kernel_rfl) (by kernel_rfl) (by kernel_rfl)) dInt (fun _ _ => rfl)) dNil (by kernel_rfl)) (by decide +kernel) (by kernel_rfl) ⟨(by kernel_rfl), (by kernel_rfl)⟩) (dVar 2 (by kernel_rfl) (by kernel_rfl) (by kernel_rfl) (by kernel_rfl))) sc__law_draw.nd (by kernel_rfl) (by kernel_rfl) (by kernel_rfl) (Or.inl rfl))
    (dSeq (dSetIx (dDiv (dIx rfl (dVar 1 (by kernel_rfl) (by kernel_rfl) (by kernel_rfl) (by kernel_rfl)) dInt (fun _ _ => rfl)) (dVar 2 (by kernel_rfl) (by kernel_rfl) (by kernel_rfl) (by kernel_rfl))) (dVar 1 (by kernel_rfl) (by kernel_rfl) (by kernel_rfl) (by kernel_rfl)) dInt (by kernel_rfl) (by kernel_rfl) (fun _ => rfl) rfl)
    (dOne (dRet (dVar 3 (by kernel_rfl) (by kernel_rfl) (by kernel_rfl) (by kernel_rfl))))))
    dSkip)
    (dSeq (dSetIx dInt (dVar 1 (by kernel_rfl) (by kernel_rfl) (by kernel_rfl) (by kernel_rfl)) dInt (by kernel_rfl) (by kernel_rfl) (fun _ => rfl) rfl)
    (dSeq (dSet dInt sc__law_draw.nd (by kernel_rfl) (by kernel_rfl) (by kernel_rfl) (Or.inl rfl))
    (dSeq (dIf (qGt (dB (cLen rfl) fLen_ok fx.b_len (by kernel_rfl) (by kernel_rfl) (dCons (dVar 0 (by kernel_rfl) (by kernel_rfl) (by kernel_rfl) (by kernel_rfl)) dNil (by kernel_rfl)) (by decide +kernel) (by kernel_rfl) ⟨(by kernel_rfl), (by kernel_rfl)⟩) dInt)
    (dOne (dSet (dIx rfl (dVar 0 (by kernel_rfl) (by kernel_rfl) (by kernel_rfl) (by kernel_rfl)) (dMod (dTy cInt fIntA_ok fx.b_int (by kernel_rfl) (by kernel_rfl) (dCons (dIx rfl (dVar 1 (by kernel_rfl) (by kernel_rfl) (by kernel_rfl) (by kernel_rfl)) dInt (fun _ _ => rfl)) dNil (by kernel_rfl)) (by decide +kernel) (by kernel_rfl) ⟨(by kernel_rfl), (by kernel_rfl)⟩) (dB (cLen rfl) fLen_ok fx.b_len (by kernel_rfl) (by kernel_rfl) (dCons (dVar 0 (by kernel_rfl) (by kernel_rfl) (by kernel_rfl) (by kernel_rfl)) dNil (by kernel_rfl)) (by decide +kernel) (by kernel_rfl) ⟨(by kernel_rfl), (by kernel_rfl)⟩)) (fun _ _ => rfl)) sc__law_draw.nd (by kernel_rfl) (by kernel_rfl) (by kernel_rfl) (Or.inl rfl)))
    dSkip)
    (dSeq (dSetIx (dAdd rfl (dIx rfl (dVar 1 (by kernel_rfl) (by kernel_rfl) (by kernel_rfl) (by kernel_rfl)) dInt (fun _ _ => rfl)) dInt) (dVar 1 (by kernel_rfl) (by kernel_rfl) (by kernel_rfl) (by kernel_rfl)) dInt (by kernel_rfl) (by kernel_rfl) (fun _ => rfl) rfl)
    (dSeq (dSet (dMul (dMod (dTy cInt fIntA_ok fx.b_int (by kernel_rfl) (by kernel_rfl) (dCons (dIx rfl (dVar 1 (by kernel_rfl) (by kernel_rfl) (by kernel_rfl) (by kernel_rfl)) dInt (fun _ _ => rfl)) dNil (by kernel_rfl)) (by decide +kernel) (by kernel_rfl) ⟨(by kernel_rfl), (by kernel_rfl)⟩) dInt) dInt) sc__law_draw.nd (by kernel_rfl) (by kernel_rfl) (by kernel_rfl) (Or.inl rfl))
    (dSeq (dSet (dAdd rfl (dAdd rfl (dAdd rfl (dVar 5 (by kernel_rfl) (by kernel_rfl) (by kernel_rfl) (by kernel_rfl)) (dMod (dTy cInt fIntA_ok fx.b_int (by kernel_rfl) (by kernel_rfl) (dCons (dVar 4 (by kernel_rfl) (by kernel_rfl) (by kernel_rfl) (by kernel_rfl)) dNil (by kernel_rfl)) (by decide +kernel) (by kernel_rfl) ⟨(by kernel_rfl), (by kernel_rfl)⟩) dInt)) (dMul dInt (dIx rfl (dVar 1 (by kernel_rfl) (by kernel_rfl) (by kernel_rfl) (by kernel_rfl)) dInt (fun _ _ => rfl)))) dInt) sc__law_draw.nd (by kernel_rfl) (by kernel_rfl) (by kernel_rfl) (Or.inl rfl))
    (dSeq (dSetIx (dMod (dTy cInt fIntA_ok fx.b_int (by kernel_rfl) (by kernel_rfl) (dCons (dVar 5 (by kernel_rfl) (by kernel_rfl) (by kernel_rfl) (by kernel_rfl)) dNil (by kernel_rfl)) (by decide +kernel) (by kernel_rfl) ⟨(by kernel_rfl), (by kernel_rfl)⟩) dInt) (dVar 1 (by kernel_rfl) (by kernel_rfl) (by kernel_rfl) (by kernel_rfl)) dInt (by kernel_rfl) (by kernel_rfl) (fun _ => rfl) rfl)
    (dSeq (dSet (dMod (dTy cInt fIntA_ok fx.b_int (by kernel_rfl) (by kernel_rfl) (dCons (dAdd rfl (dMul (dIx rfl (dVar 1 (by kernel_rfl) (by kernel_rfl) (by kernel_rfl) (by kernel_rfl)) dInt (fun _ _ => rfl)) dInt) (dIx rfl (dVar 1 (by kernel_rfl) (by kernel_rfl) (by kernel_rfl) (by kernel_rfl)) dInt (fun _ _ => rfl))) dNil (by kernel_rfl)) (by decide +kernel) (by kernel_rfl) ⟨(by kernel_rfl), (by kernel_rfl)⟩) dInt) sc__law_draw.nd (by kernel_rfl) (by kernel_rfl) (by kernel_rfl) (Or.inl rfl))
    (dOne (dRet (dMod (dTy cInt fIntA_ok fx.b_int (by kernel_rfl) (by kernel_rfl) (dCons (dDiv (dVar 5 (by kernel_rfl) (by kernel_rfl) (by kernel_rfl) (by kernel_rfl)) dInt) dNil (by kernel_rfl)) (by decide +kernel) (by kernel_rfl) ⟨(by kernel_rfl), (by kernel_rfl)⟩) (dVar 2 (by kernel_rfl) (by kernel_rfl) (by kernel_rfl) (by kernel_rfl)))))))))))))))
abbrev t__law_values : Stmt := topS 30
theorem sc__law_values : FnScope ["_law_script", "_law_state", "_law_most", "_law_value", "_law_found", "_law_minute"] ["_law_script", "_law_state", "_law_most"] (defScope t__law_values) := ⟨rfl, rfl, rfl, by decide +kernel, rfl, by decide +kernel, by decide +kernel⟩
noncomputable def b__law_values : MS :=
    (mSeq (mSet 3 (mCB m__law_draw (mCons (mVar 0) (mCons (mVar 1) (mCons (mC (.int 6)) mNil)))))
    (mSeq (mSet 4 (mLst mNil))
    (mSeq (mFor (iR1 (mOp oAdd (mC (.int 1)) (mCB m__law_draw (mCons (mVar 0) (mCons (mVar 1) (mCons (mVar 2) mNil)))))) (gN 5)
    (mSeq (mSet 3 (mCB fMax2 (mCons (mCB fIntA2 (mCons (mVar 3) mNil)) (mCons (mVar 5) mNil))))
    (mSeq (mDrop (mBM kList fAppend (mVar 4) (mCons (mVar 3) mNil)))
    (mSet 3 (mOp oAdd (mVar 3) (mOp oIx (mLst (mCons (mC (.int 0)) (mCons (mC (.int 0)) (mCons (mC (.int 1)) (mCons (mC (.int 1)) (mCons (mC (.int 1)) (mCons (mC (.int 2)) (mCons (mC (.int 3)) (mCons (mC (.int 9)) mNil))))))))) (mCB m__law_draw (mCons (mVar 0) (mCons (mVar 1) (mCons (mC (.int 8)) mNil))))))))))
    (mRet (mVar 4)))))
noncomputable def m__law_values : MF := mfun 3 6 b__law_values
theorem ok__law_values (fx : Fx G mg) (c__law_draw : Callee P w G mg base "_law_draw" 1 ["_law_script", "_law_state", "_law_limit"] m__law_draw) (F : Fun G.K "_law_values" "_law_values" t__law_values f fd) : FnM P w G mg base 2 f fd ["_law_script", "_law_state", "_law_most"] m__law_values :=
  fn_M (k := 1) F sc__law_values fun cdv A outer s H E hr tk => by
  exact (dSeq (dSet (dCall (n := 3) rfl c__law_draw hr (by decide) tk rfl (dCons (dVar 0 (by kernel_rfl) (by kernel_rfl) (by kernel_rfl) (by kernel_rfl)) (dCons (dVar 1 (by kernel_rfl) (by kernel_rfl) (by kernel_rfl) (by kernel_rfl)) (dCons dInt dNil (by kernel_rfl)) (by kernel_rfl)) (by kernel_rfl)) (al_cons (al_cons (al_cons al_nil))) (by kernel_rfl) (by kernel_rfl) ⟨(by kernel_rfl), (by kernel_rfl)⟩) sc__law_values.nd (by kernel_rfl) (by kernel_rfl) (by kernel_rfl) (Or.inl rfl))
    (dSeq (dSet (dLst dNil) sc__law_values.nd (by kernel_rfl) (by kernel_rfl) (by kernel_rfl) (Or.inl rfl))
    (dSeq (dFor PassesOwn.leaving rfl (iRange1 (dAdd rfl dInt (dCall (n := 3) rfl c__law_draw hr (by decide) tk rfl (dCons (dVar 0 (by kernel_rfl) (by kernel_rfl) (by kernel_rfl) (by kernel_rfl)) (dCons (dVar 1 (by kernel_rfl) (by kernel_rfl) (by kernel_rfl) (by kernel_rfl)) (dCons (dVar 2 (by kernel_rfl) (by kernel_rfl) (by kernel_rfl) (by kernel_rfl)) dNil (by kernel_rfl)) (by kernel_rfl)) (by kernel_rfl)) (al_cons (al_cons (al_cons al_nil))) (by kernel_rfl) (by kernel_rfl) ⟨(by kernel_rfl), (by kernel_rfl)⟩)) fx.b_range (by kernel_rfl) (by kernel_rfl) (by kernel_rfl)) (gName sc__law_values.nd (by kernel_rfl) (by kernel_rfl) (Or.inl rfl))
    (dSeq (dSet (dB (call_max2 rfl) fMax2_ok fx.b_max (by kernel_rfl) (by kernel_rfl) (dCons (dTy cInt fIntA_ok fx.b_int (by kernel_rfl) (by kernel_rfl) (dCons (dVar 3 (by kernel_rfl) (by kernel_rfl) (by kernel_rfl) (by kernel_rfl)) dNil (by kernel_rfl)) (by decide +kernel) (by kernel_rfl) ⟨(by kernel_rfl), (by kernel_rfl)⟩) (dCons (dVar 5 (by kernel_rfl) (by kernel_rfl) (by kernel_rfl) (by kernel_rfl)) dNil (by kernel_rfl)) (by kernel_rfl)) (by decide +kernel) (by kernel_rfl) ⟨(by kernel_rfl), (by kernel_rfl)⟩) sc__law_values.nd (by kernel_rfl) (by kernel_rfl) (by kernel_rfl) (Or.inl rfl))
    (dSeq (dExpr (dAppend (dVar 4 (by kernel_rfl) (by kernel_rfl) (by kernel_rfl) (by kernel_rfl)) (dVar 3 (by kernel_rfl) (by kernel_rfl) (by kernel_rfl) (by kernel_rfl)) rfl (by kernel_rfl) (pe_bm PySem.F.plainAttrs_list PySem.F.slot_list_append PySem.F.type_list_append mt_append (dVar 4 (by kernel_rfl) (by kernel_rfl) (by kernel_rfl) (by kernel_rfl)) (dCons (dVar 3 (by kernel_rfl) (by kernel_rfl) (by kernel_rfl) (by kernel_rfl)) dNil (by kernel_rfl)))) (by kernel_rfl))
    (dOne (dSet (dAdd rfl (dVar 3 (by kernel_rfl) (by kernel_rfl) (by kernel_rfl) (by kernel_rfl)) (dIx rfl (dLst (dCons dInt (dCons dInt (dCons dInt (dCons dInt (dCons dInt (dCons dInt (dCons dInt (dCons dInt dNil (by kernel_rfl)) (by kernel_rfl)) (by kernel_rfl)) (by kernel_rfl)) (by kernel_rfl)) (by kernel_rfl)) (by kernel_rfl)) (by kernel_rfl))) (dCall (n := 3) rfl c__law_draw hr (by decide) tk rfl (dCons (dVar 0 (by kernel_rfl) (by kernel_rfl) (by kernel_rfl) (by kernel_rfl)) (dCons (dVar 1 (by kernel_rfl) (by kernel_rfl) (by kernel_rfl) (by kernel_rfl)) (dCons dInt dNil (by kernel_rfl)) (by kernel_rfl)) (by kernel_rfl)) (al_cons (al_cons (al_cons al_nil))) (by kernel_rfl) (by kernel_rfl) ⟨(by kernel_rfl), (by kernel_rfl)⟩) (fun _ _ => rfl))) sc__law_values.nd (by kernel_rfl) (by kernel_rfl) (by kernel_rfl) (Or.inl rfl))))) (fun _ => rfl))
    (dOne (dRet (dVar 4 (by kernel_rfl) (by kernel_rfl) (by kernel_rfl) (by kernel_rfl)))))))
abbrev t__law_rows : Stmt := topS 32
theorem sc__law_rows : FnScope ["_law_script", "_law_state", "_law_values_here", "_law_rows_here", "_law_last", "_law_minute", "_law_goes_on", "_law_start_here", "_law_value", "_law_grows"] ["_law_script", "_law_state", "_law_values_here"] (defScope t__law_rows) := ⟨rfl, rfl, rfl, by decide +kernel, rfl, by decide +kernel, by decide +kernel⟩
noncomputable def b__law_rows : MS :=
    (mSeq (mSet 3 (mLst mNil))
    (mSeq (mSet 4 (mOp oSub (mCB fLen (mCons (mVar 2) mNil)) (mC (.int 1))))
    (mSeq (mFor (iR1 (mVar 4)) (gN 5)
    (mSeq (mSet 6 (mC (.bl false)))
    (mSeq (mIf (mB (mOp oGt (mCB fLen (mCons (mVar 3) mNil)) (mC (.int 0))))
    (mSeq (mAsg (gT 3 (gC (gN 7) (gC (gN 8) (gC (gN 9) gE)))) (mOp oIx (mVar 3) (mNeg (mC (.int 1)))))
    (mSeq (mIf (mB (mVar 9))
    (mSet 8 (mOp oSub (mOp oAdd (mVar 8) (mVar 5)) (mVar 7)))
    mSkip)
    (mSet 6 (mOp (oEq 3) (mVar 8) (mOp oIx (mVar 2) (mVar 5))))))
    mSkip)
    (mIf (mTOr (mTNot (mB (mVar 6))) (mB (mOp (oEq 3) (mCB m__law_draw (mCons (mVar 0) (mCons (mVar 1) (mCons (mC (.int 3)) mNil)))) (mC (.int 0)))))
    (mDrop (mBM kList fAppend (mVar 3) (mCons (mTup (mCons (mVar 5) (mCons (mOp oIx (mVar 2) (mVar 5)) (mCons (mOp (oEq 3) (mCB m__law_draw (mCons (mVar 0) (mCons (mVar 1) (mCons (mC (.int 2)) mNil)))) (mC (.int 1))) mNil)))) mNil)))
    mSkip))))
    (mSeq (mDrop (mBM kList fAppend (mVar 3) (mCons (mTup (mCons (mVar 4) (mCons (mOp oIx (mVar 2) (mVar 4)) (mCons (mC (.bl true)) mNil)))) mNil)))
    (mRet (mVar 3))))))
noncomputable def m__law_rows : MF := mfun 3 10 b__law_rows
theorem ok__law_rows (fx : Fx G mg) (c__law_draw : Callee P w G mg base "_law_draw" 1 ["_law_script", "_law_state", "_law_limit"] m__law_draw) (F : Fun G.K "_law_rows" "_law_rows" t__law_rows f fd) : FnM P w G mg base 2 f fd ["_law_script", "_law_state", "_law_values_here"] m__law_rows :=
  fn_M (k := 1) F sc__law_rows fun cdv A outer s H E hr tk => by
  exact (dSeq (dSet (dLst dNil) sc__law_rows.nd (by kernel_rfl) (by kernel_rfl) (by kernel_rfl) (Or.inl rfl))
    (dSeq (dSet (dSub (dB (cLen rfl) fLen_ok fx.b_len (by kernel_rfl) (by kernel_rfl) (dCons (dVar 2 (by kernel_rfl) (by kernel_rfl) (by kernel_rfl) (by kernel_rfl)) dNil (by kernel_rfl)) (by decide +kernel) (by kernel_rfl) ⟨(by kernel_rfl), (by kernel_rfl)⟩) dInt) sc__law_rows.nd (by kernel_rfl) (by kernel_rfl) (by kernel_rfl) (Or.inl rfl))
    (dSeq (dFor PassesOwn.leaving rfl (iRange1 (dVar 4 (by kernel_rfl) (by kernel_rfl) (by kernel_rfl) (by kernel_rfl)) fx.b_range (by kernel_rfl) (by kernel_rfl) (by kernel_rfl)) (gName sc__law_rows.nd (by kernel_rfl) (by kernel_rfl) (Or.inl rfl))
    (dSeq (dSet dBl sc__law_rows.nd (by kernel_rfl) (by kernel_rfl) (by kernel_rfl) (Or.inl rfl))
    (dSeq (dIf (qGt (dB (cLen rfl) fLen_ok fx.b_len (by kernel_rfl) (by kernel_rfl) (dCons (dVar 3 (by kernel_rfl) (by kernel_rfl) (by kernel_rfl) (by kernel_rfl)) dNil (by kernel_rfl)) (by decide +kernel) (by kernel_rfl) ⟨(by kernel_rfl), (by kernel_rfl)⟩) dInt)
    (dSeq (dAsg (dIx rfl (dVar 3 (by kernel_rfl) (by kernel_rfl) (by kernel_rfl) (by kernel_rfl)) (dNeg dInt) (fun _ _ => rfl)) (gTupD rfl rfl (gConsD (gName sc__law_rows.nd (by kernel_rfl) (by kernel_rfl) (Or.inl rfl)) (gConsD (gName sc__law_rows.nd (by kernel_rfl) (by kernel_rfl) (Or.inl rfl)) (gConsD (gName sc__law_rows.nd (by kernel_rfl) (by kernel_rfl) (Or.inl rfl)) gNil' (by kernel_rfl)) (by kernel_rfl)) (by kernel_rfl)) (by kernel_rfl) (by kernel_rfl)) (by kernel_rfl) (by kernel_rfl) (by kernel_rfl))
    (dSeq (dIf (qVal (dVar 9 (by kernel_rfl) (by kernel_rfl) (by kernel_rfl) (by kernel_rfl)) (fun _ => rfl))
    (dOne (dSet (dSub (dAdd rfl (dVar 8 (by kernel_rfl) (by kernel_rfl) (by kernel_rfl) (by kernel_rfl)) (dVar 5 (by kernel_rfl) (by kernel_rfl) (by kernel_rfl) (by kernel_rfl))) (dVar 7 (by kernel_rfl) (by kernel_rfl) (by kernel_rfl) (by kernel_rfl))) sc__law_rows.nd (by kernel_rfl) (by kernel_rfl) (by kernel_rfl) (Or.inl rfl)))
    dSkip)
    (dOne (dSet (dEq 3 rfl (units64 hr) (dVar 8 (by kernel_rfl) (by kernel_rfl) (by kernel_rfl) (by kernel_rfl)) (dIx rfl (dVar 2 (by kernel_rfl) (by kernel_rfl) (by kernel_rfl) (by kernel_rfl)) (dVar 5 (by kernel_rfl) (by kernel_rfl) (by kernel_rfl) (by kernel_rfl)) (fun _ _ => rfl))) sc__law_rows.nd (by kernel_rfl) (by kernel_rfl) (by kernel_rfl) (Or.inl rfl)))))
    dSkip)
    (dOne (dIf (qOr' (qNot (qVal (dVar 6 (by kernel_rfl) (by kernel_rfl) (by kernel_rfl) (by kernel_rfl)) (fun _ => rfl))) (qOr1 (qEq 3 rfl (units64 hr) (dCall (n := 3) rfl c__law_draw hr (by decide) tk rfl (dCons (dVar 0 (by kernel_rfl) (by kernel_rfl) (by kernel_rfl) (by kernel_rfl)) (dCons (dVar 1 (by kernel_rfl) (by kernel_rfl) (by kernel_rfl) (by kernel_rfl)) (dCons dInt dNil (by kernel_rfl)) (by kernel_rfl)) (by kernel_rfl)) (al_cons (al_cons (al_cons al_nil))) (by kernel_rfl) (by kernel_rfl) ⟨(by kernel_rfl), (by kernel_rfl)⟩) dInt)))
    (dOne (dExpr (dAppend (dVar 3 (by kernel_rfl) (by kernel_rfl) (by kernel_rfl) (by kernel_rfl)) (dTup (dCons (dVar 5 (by kernel_rfl) (by kernel_rfl) (by kernel_rfl) (by kernel_rfl)) (dCons (dIx rfl (dVar 2 (by kernel_rfl) (by kernel_rfl) (by kernel_rfl) (by kernel_rfl)) (dVar 5 (by kernel_rfl) (by kernel_rfl) (by kernel_rfl) (by kernel_rfl)) (fun _ _ => rfl)) (dCons (dEq 3 rfl (units64 hr) (dCall (n := 3) rfl c__law_draw hr (by decide) tk rfl (dCons (dVar 0 (by kernel_rfl) (by kernel_rfl) (by kernel_rfl) (by kernel_rfl)) (dCons (dVar 1 (by kernel_rfl) (by kernel_rfl) (by kernel_rfl) (by kernel_rfl)) (dCons dInt dNil (by kernel_rfl)) (by kernel_rfl)) (by kernel_rfl)) (al_cons (al_cons (al_cons al_nil))) (by kernel_rfl) (by kernel_rfl) ⟨(by kernel_rfl), (by kernel_rfl)⟩) dInt) dNil (by kernel_rfl)) (by kernel_rfl)) (by kernel_rfl))) rfl (by kernel_rfl) (pe_bm PySem.F.plainAttrs_list PySem.F.slot_list_append PySem.F.type_list_append mt_append (dVar 3 (by kernel_rfl) (by kernel_rfl) (by kernel_rfl) (by kernel_rfl)) (dCons (dTup (dCons (dVar 5 (by kernel_rfl) (by kernel_rfl) (by kernel_rfl) (by kernel_rfl)) (dCons (dIx rfl (dVar 2 (by kernel_rfl) (by kernel_rfl) (by kernel_rfl) (by kernel_rfl)) (dVar 5 (by kernel_rfl) (by kernel_rfl) (by kernel_rfl) (by kernel_rfl)) (fun _ _ => rfl)) (dCons (dEq 3 rfl (units64 hr) (dCall (n := 3) rfl c__law_draw hr (by decide) tk rfl (dCons (dVar 0 (by kernel_rfl) (by kernel_rfl) (by kernel_rfl) (by kernel_rfl)) (dCons (dVar 1 (by kernel_rfl) (by kernel_rfl) (by kernel_rfl) (by kernel_rfl)) (dCons dInt dNil (by kernel_rfl)) (by kernel_rfl)) (by kernel_rfl)) (al_cons (al_cons (al_cons al_nil))) (by kernel_rfl) (by kernel_rfl) ⟨(by kernel_rfl), (by kernel_rfl)⟩) dInt) dNil (by kernel_rfl)) (by kernel_rfl)) (by kernel_rfl))) dNil (by kernel_rfl)))) (by kernel_rfl)))
    dSkip)))) (fun _ => rfl))
    (dSeq (dExpr (dAppend (dVar 3 (by kernel_rfl) (by kernel_rfl) (by kernel_rfl) (by kernel_rfl)) (dTup (dCons (dVar 4 (by kernel_rfl) (by kernel_rfl) (by kernel_rfl) (by kernel_rfl)) (dCons (dIx rfl (dVar 2 (by kernel_rfl) (by kernel_rfl) (by kernel_rfl) (by kernel_rfl)) (dVar 4 (by kernel_rfl) (by kernel_rfl) (by kernel_rfl) (by kernel_rfl)) (fun _ _ => rfl)) (dCons dBl dNil (by kernel_rfl)) (by kernel_rfl)) (by kernel_rfl))) rfl (by kernel_rfl) (pe_bm PySem.F.plainAttrs_list PySem.F.slot_list_append PySem.F.type_list_append mt_append (dVar 3 (by kernel_rfl) (by kernel_rfl) (by kernel_rfl) (by kernel_rfl)) (dCons (dTup (dCons (dVar 4 (by kernel_rfl) (by kernel_rfl) (by kernel_rfl) (by kernel_rfl)) (dCons (dIx rfl (dVar 2 (by kernel_rfl) (by kernel_rfl) (by kernel_rfl) (by kernel_rfl)) (dVar 4 (by kernel_rfl) (by kernel_rfl) (by kernel_rfl) (by kernel_rfl)) (fun _ _ => rfl)) (dCons dBl dNil (by kernel_rfl)) (by kernel_rfl)) (by kernel_rfl))) dNil (by kernel_rfl)))) (by kernel_rfl))
    (dOne (dRet (dVar 3 (by kernel_rfl) (by kernel_rfl) (by kernel_rfl) (by kernel_rfl))))))))
abbrev t__law_at : Stmt := topS 31
theorem sc__law_at : FnScope ["_law_values_here", "_law_minute"] ["_law_values_here", "_law_minute"] (defScope t__law_at) := ⟨rfl, rfl, rfl, by decide +kernel, rfl, by decide +kernel, by decide +kernel⟩
noncomputable def b__law_at : MS :=
    (mSeq (mIf (mB (mOp oLt (mVar 1) (mCB fLen (mCons (mVar 0) mNil))))
    (mRet (mOp oIx (mVar 0) (mVar 1)))
    mSkip)
    (mRet (mOp oAdd (mOp oSub (mOp oAdd (mOp oIx (mVar 0) (mNeg (mC (.int 1)))) (mVar 1)) (mCB fLen (mCons (mVar 0) mNil))) (mC (.int 1)))))
noncomputable def m__law_at : MF := mfun 2 2 b__law_at
theorem ok__law_at (fx : Fx G mg) (F : Fun G.K "_law_at" "_law_at" t__law_at f fd) : FnM P w G mg base 1 f fd ["_law_values_here", "_law_minute"] m__law_at :=
  fn_M (k := 0) F sc__law_at fun cdv A outer s H E hr tk => by
  exact (dSeq (dIf (qLt (dVar 1 (by kernel_rfl) (by kernel_rfl) (by kernel_rfl) (by kernel_rfl)) (dB (cLen rfl) fLen_ok fx.b_len (by kernel_rfl) (by kernel_rfl) (dCons (dVar 0 (by kernel_rfl) (by kernel_rfl) (by kernel_rfl) (by kernel_rfl)) dNil (by kernel_rfl)) (by decide +kernel) (by kernel_rfl) ⟨(by kernel_rfl), (by kernel_rfl)⟩))
    (dOne (dRet (dIx rfl (dVar 0 (by kernel_rfl) (by kernel_rfl) (by kernel_rfl) (by kernel_rfl)) (dVar 1 (by kernel_rfl) (by kernel_rfl) (by kernel_rfl) (by kernel_rfl)) (fun _ _ => rfl))))
    dSkip)
    (dOne (dRet (dAdd rfl (dSub (dAdd rfl (dIx rfl (dVar 0 (by kernel_rfl) (by kernel_rfl) (by kernel_rfl) (by kernel_rfl)) (dNeg dInt) (fun _ _ => rfl)) (dVar 1 (by kernel_rfl) (by kernel_rfl) (by kernel_rfl) (by kernel_rfl))) (dB (cLen rfl) fLen_ok fx.b_len (by kernel_rfl) (by kernel_rfl) (dCons (dVar 0 (by kernel_rfl) (by kernel_rfl) (by kernel_rfl) (by kernel_rfl)) dNil (by kernel_rfl)) (by decide +kernel) (by kernel_rfl) ⟨(by kernel_rfl), (by kernel_rfl)⟩)) dInt))))
abbrev t__law_due : Stmt := topS 33
theorem sc__law_due : FnScope ["_law_values_here", "_law_size", "_law_found", "_law_first", "_law_minute"] ["_law_values_here", "_law_size"] (defScope t__law_due) := ⟨rfl, rfl, rfl, by decide +kernel, rfl, by decide +kernel, by decide +kernel⟩
noncomputable def b__law_due : MS :=
    (mSeq (mSet 2 (mLst mNil))
    (mSeq (mSet 3 (mC (.int 0)))
    (mSeq (mFor (iR1 (mOp oAdd (mCB fLen (mCons (mVar 0) mNil)) (mC (.int 1)))) (gN 4)
    (mIf (mB (mOp (oNe 3) (mCB m__law_at (mCons (mVar 0) (mCons (mOp oAdd (mVar 4) (mC (.int 1))) mNil))) (mCB m__law_at (mCons (mVar 0) (mCons (mVar 4) mNil)))))
    (mSeq (mIf (mB (mOp oGe (mOp oAdd (mOp oSub (mVar 4) (mVar 3)) (mC (.int 1))) (mVar 1)))
    (mDrop (mBM kList fAppend (mVar 2) (mCons (mTup (mCons (mVar 3) (mCons (mVar 4) mNil))) mNil)))
    mSkip)
    (mSet 3 (mOp oAdd (mVar 4) (mC (.int 1)))))
    mSkip))
    (mRet (mVar 2)))))
noncomputable def m__law_due : MF := mfun 2 5 b__law_due
theorem ok__law_due (fx : Fx G mg) (c__law_at : Callee P w G mg base "_law_at" 1 ["_law_values_here", "_law_minute"] m__law_at) (F : Fun G.K "_law_due" "_law_due" t__law_due f fd) : FnM P w G mg base 2 f fd ["_law_values_here", "_law_size"] m__law_due :=
  fn_M (k := 1) F sc__law_due fun cdv A outer s H E hr tk => by
  exact (dSeq (dSet (dLst dNil) sc__law_due.nd (by kernel_rfl) (by kernel_rfl) (by kernel_rfl) (Or.inl rfl))
    (dSeq (dSet dInt sc__law_due.nd (by kernel_rfl) (by kernel_rfl) (by kernel_rfl) (Or.inl rfl))
    (dSeq (dFor PassesOwn.leaving rfl (iRange1 (dAdd rfl (dB (cLen rfl) fLen_ok fx.b_len (by kernel_rfl) (by kernel_rfl) (dCons (dVar 0 (by kernel_rfl) (by kernel_rfl) (by kernel_rfl) (by kernel_rfl)) dNil (by kernel_rfl)) (by decide +kernel) (by kernel_rfl) ⟨(by kernel_rfl), (by kernel_rfl)⟩) dInt) fx.b_range (by kernel_rfl) (by kernel_rfl) (by kernel_rfl)) (gName sc__law_due.nd (by kernel_rfl) (by kernel_rfl) (Or.inl rfl))
    (dOne (dIf (qNe 3 rfl (units64 hr) (dCall (n := 2) rfl c__law_at hr (by decide) tk rfl (dCons (dVar 0 (by kernel_rfl) (by kernel_rfl) (by kernel_rfl) (by kernel_rfl)) (dCons (dAdd rfl (dVar 4 (by kernel_rfl) (by kernel_rfl) (by kernel_rfl) (by kernel_rfl)) dInt) dNil (by kernel_rfl)) (by kernel_rfl)) (al_cons (al_cons al_nil)) (by kernel_rfl) (by kernel_rfl) ⟨(by kernel_rfl), (by kernel_rfl)⟩) (dCall (n := 2) rfl c__law_at hr (by decide) tk rfl (dCons (dVar 0 (by kernel_rfl) (by kernel_rfl) (by kernel_rfl) (by kernel_rfl)) (dCons (dVar 4 (by kernel_rfl) (by kernel_rfl) (by kernel_rfl) (by kernel_rfl)) dNil (by kernel_rfl)) (by kernel_rfl)) (al_cons (al_cons al_nil)) (by kernel_rfl) (by kernel_rfl) ⟨(by kernel_rfl), (by kernel_rfl)⟩))
    (dSeq (dIf (qGe (dAdd rfl (dSub (dVar 4 (by kernel_rfl) (by kernel_rfl) (by kernel_rfl) (by kernel_rfl)) (dVar 3 (by kernel_rfl) (by kernel_rfl) (by kernel_rfl) (by kernel_rfl))) dInt) (dVar 1 (by kernel_rfl) (by kernel_rfl) (by kernel_rfl) (by kernel_rfl)))
    (dOne (dExpr (dAppend (dVar 2 (by kernel_rfl) (by kernel_rfl) (by kernel_rfl) (by kernel_rfl)) (dTup (dCons (dVar 3 (by kernel_rfl) (by kernel_rfl) (by kernel_rfl) (by kernel_rfl)) (dCons (dVar 4 (by kernel_rfl) (by kernel_rfl) (by kernel_rfl) (by kernel_rfl)) dNil (by kernel_rfl)) (by kernel_rfl))) rfl (by kernel_rfl) (pe_bm PySem.F.plainAttrs_list PySem.F.slot_list_append PySem.F.type_list_append mt_append (dVar 2 (by kernel_rfl) (by kernel_rfl) (by kernel_rfl) (by kernel_rfl)) (dCons (dTup (dCons (dVar 3 (by kernel_rfl) (by kernel_rfl) (by kernel_rfl) (by kernel_rfl)) (dCons (dVar 4 (by kernel_rfl) (by kernel_rfl) (by kernel_rfl) (by kernel_rfl)) dNil (by kernel_rfl)) (by kernel_rfl))) dNil (by kernel_rfl)))) (by kernel_rfl)))
    dSkip)
    (dOne (dSet (dAdd rfl (dVar 4 (by kernel_rfl) (by kernel_rfl) (by kernel_rfl) (by kernel_rfl)) dInt) sc__law_due.nd (by kernel_rfl) (by kernel_rfl) (by kernel_rfl) (Or.inl rfl))))
    dSkip)) (fun _ => rfl))
    (dOne (dRet (dVar 2 (by kernel_rfl) (by kernel_rfl) (by kernel_rfl) (by kernel_rfl)))))))
abbrev t__law_told : Stmt := topS 34
theorem sc__law_told : FnScope ["_law_f", "_law_size", "e"] ["_law_f", "_law_size"] (defScope t__law_told) := ⟨rfl, rfl, rfl, by decide +kernel, rfl, by decide +kernel, by decide +kernel⟩
noncomputable def b__law_told : MS :=
    (mTry tk_BadNumber 2 (mRet (mMeth 3 ("levels" : Str) m_Rising_levels (mVar 0) (mCons (mVar 1) mNil)))
    (mRet (mTup (mCons (mAttrX ("what" : Str) at_what_i at_what_e (mVar 2)) (mCons (mAttrX ("value" : Str) at_value_i at_value_e (mVar 2)) mNil)))))
noncomputable def m__law_told : MF := mfun 2 3 b__law_told
theorem ok__law_told (fx : Fx G mg) (om_Rising_levels : OwnMethK P w G mg base "levels" "least" 2 5 3 m_Rising_levels) (F : Fun G.K "_law_told" "_law_told" t__law_told f fd) : FnM P w G mg base 6 f fd ["_law_f", "_law_size"] m__law_told :=
  fn_M (k := 5) F sc__law_told fun cdv A outer s H E hr tk => by
  exact (dOne (dTry rfl fx.t_BadNumber rfl rfl rfl sc__law_told.nd (by kernel_rfl) (by kernel_rfl) ⟨(by show _ = _; kernel_rfl), (by kernel_rfl), Or.inl fx.g_BadNumber⟩ tk (fun W1 pn1 xe1 tk1 hp1 => (dOne (dRet (dMethK1 rfl om_Rising_levels hr (by decide) tk1 (dVar 0 (by kernel_rfl) (by kernel_rfl) (by kernel_rfl) (by kernel_rfl)) (dVar 1 (by kernel_rfl) (by kernel_rfl) (by kernel_rfl) (by kernel_rfl)) (by rfl) (by rfl) (by rfl) (by rfl)))))
    (fun a1 pm1 => (dOne (dRet (dTup (dCons (dAttr rfl fx.a_what (dVar 2 (by kernel_rfl) (by kernel_rfl) (by kernel_rfl) (by kernel_rfl)) (by kernel_rfl)) (dCons (dAttr rfl fx.a_value (dVar 2 (by kernel_rfl) (by kernel_rfl) (by kernel_rfl) (by kernel_rfl)) (by kernel_rfl)) dNil (by kernel_rfl)) (by kernel_rfl))))))))
abbrev t_law : Stmt := topS 35
theorem sc_law : FnScope ["_law_script", "_law_state", "_law_values_here", "_law_f", "_law_found", "_law_size"] ["_law_script"] (defScope t_law) := ⟨rfl, rfl, rfl, by decide +kernel, rfl, by decide +kernel, by decide +kernel⟩
noncomputable def b_law : MS :=
    (mSeq (mSet 1 (mCB m__law_start (mCons (mVar 0) mNil)))
    (mSeq (mSet 2 (mCB m__law_values (mCons (mVar 0) (mCons (mVar 1) (mCons (mC (.int 30)) mNil)))))
    (mSeq (mSet 3 (mMake 3 m_Rising___init__ (mCons (mCB m__law_rows (mCons (mVar 0) (mCons (mVar 1) (mCons (mVar 2) mNil)))) mNil)))
    (mSeq (mSet 4 (mMeth 3 ("levels" : Str) m_Rising_levels (mVar 3) (mCons (mC (.int 2)) mNil)))
    (mSeq (mIf (mTOr (mTNot (mB (mIsi tabList (mVar 4)))) (mB (mOp (oNe 3) (mVar 4) (mCB m__law_due (mCons (mVar 2) (mCons (mC (.int 2)) mNil))))))
    (mRet (mC (.bl false)))
    mSkip)
    (mSeq (mDrop (mBM kList fAppend (mVar 4) (mCons (mTup (mCons (mC (.int 0)) (mCons (mC (.int 0)) mNil))) mNil)))
    (mSeq (mIf (mB (mOp (oNe 3) (mMeth 3 ("levels" : Str) m_Rising_levels (mVar 3) (mCons (mC (.int 2)) mNil)) (mCB m__law_due (mCons (mVar 2) (mCons (mC (.int 2)) mNil)))))
    (mRet (mC (.bl false)))
    mSkip)
    (mSeq (mFor (iR2 (mC (.int 2)) (mC (.int 7))) (gN 5)
    (mIf (mB (mOp (oNe 3) (mMeth 3 ("levels" : Str) m_Rising_levels (mVar 3) (mCons (mVar 5) mNil)) (mCB m__law_due (mCons (mVar 2) (mCons (mVar 5) mNil)))))
    (mRet (mC (.bl false)))
    mSkip))
    (mSeq (mFor (iSeq (mLst (mCons (mC (.int 1)) (mCons (mC (.int 0)) (mCons (mNeg (mOp oPow (mC (.int 10)) (mC (.int 9)))) (mCons (mC (.bl true)) (mCons (mC .non) mNil))))))) (gN 5)
    (mIf (mB (mOp (oNe 3) (mCB m__law_told (mCons (mVar 3) (mCons (mVar 5) mNil))) (mTup (mCons (mC (.str ("least" : Str))) (mCons (mVar 5) mNil)))))
    (mRet (mC (.bl false)))
    mSkip))
    (mRet (mC (.bl true))))))))))))
noncomputable def m_law : MF := mfun 1 6 b_law
theorem ok_law (fx : Fx G mg) (c__law_start : Callee P w G mg base "_law_start" 1 ["_law_script"] m__law_start) (c__law_values : Callee P w G mg base "_law_values" 2 ["_law_script", "_law_state", "_law_most"] m__law_values) (c__law_rows : Callee P w G mg base "_law_rows" 2 ["_law_script", "_law_state", "_law_values_here"] m__law_rows) (c__law_due : Callee P w G mg base "_law_due" 2 ["_law_values_here", "_law_size"] m__law_due) (c__law_told : Callee P w G mg base "_law_told" 6 ["_law_f", "_law_size"] m__law_told) (mk_Rising : OwnCls P w G mg base "Rising" 5 3 1 m_Rising___init__) (om_Rising_levels : OwnMethK P w G mg base "levels" "least" 2 5 3 m_Rising_levels) (F : Fun G.K "law" "law" t_law f fd) : FnM P w G mg base 7 f fd ["_law_script"] m_law :=
  fn_M (k := 6) F sc_law fun cdv A outer s H E hr tk => by
  exact (dSeq (dSet (dCall (n := 1) rfl c__law_start hr (by decide) tk rfl (dCons (dVar 0 (by kernel_rfl) (by kernel_rfl) (by kernel_rfl) (by kernel_rfl)) dNil (by kernel_rfl)) (al_cons al_nil) (by kernel_rfl) (by kernel_rfl) ⟨(by kernel_rfl), (by kernel_rfl)⟩) sc_law.nd (by kernel_rfl) (by kernel_rfl) (by kernel_rfl) (Or.inl rfl))
    (dSeq (dSet (dCall (n := 3) rfl c__law_values hr (by decide) tk rfl (dCons (dVar 0 (by kernel_rfl) (by kernel_rfl) (by kernel_rfl) (by kernel_rfl)) (dCons (dVar 1 (by kernel_rfl) (by kernel_rfl) (by kernel_rfl) (by kernel_rfl)) (dCons dInt dNil (by kernel_rfl)) (by kernel_rfl)) (by kernel_rfl)) (al_cons (al_cons (al_cons al_nil))) (by kernel_rfl) (by kernel_rfl) ⟨(by kernel_rfl), (by kernel_rfl)⟩) sc_law.nd (by kernel_rfl) (by kernel_rfl) (by kernel_rfl) (Or.inl rfl))
    (dSeq (dSet (dMake (n := 1) rfl mk_Rising hr (by decide) tk (dCons (dCall (n := 3) rfl c__law_rows hr (by decide) tk rfl (dCons (dVar 0 (by kernel_rfl) (by kernel_rfl) (by kernel_rfl) (by kernel_rfl)) (dCons (dVar 1 (by kernel_rfl) (by kernel_rfl) (by kernel_rfl) (by kernel_rfl)) (dCons (dVar 2 (by kernel_rfl) (by kernel_rfl) (by kernel_rfl) (by kernel_rfl)) dNil (by kernel_rfl)) (by kernel_rfl)) (by kernel_rfl)) (al_cons (al_cons (al_cons al_nil))) (by kernel_rfl) (by kernel_rfl) ⟨(by kernel_rfl), (by kernel_rfl)⟩) dNil (by kernel_rfl)) (al_cons al_nil) (by kernel_rfl) (by kernel_rfl) ⟨(by kernel_rfl), (by kernel_rfl)⟩) sc_law.nd (by kernel_rfl) (by kernel_rfl) (by kernel_rfl) (Or.inl rfl))
    (dSeq (dSet (dMethK0 rfl om_Rising_levels hr (by decide) tk (dVar 3 (by kernel_rfl) (by kernel_rfl) (by kernel_rfl) (by kernel_rfl)) (by rfl)) sc_law.nd (by kernel_rfl) (by kernel_rfl) (by kernel_rfl) (Or.inl rfl))
    (dSeq (dIf (qOr' (qNot (qVal (dIsi rfl (isaTy isiList (by kernel_rfl) fx.b_list (by kernel_rfl) (by decide +kernel) (by kernel_rfl)) (dVar 4 (by kernel_rfl) (by kernel_rfl) (by kernel_rfl) (by kernel_rfl)) fx.b_isinstance (by kernel_rfl) ⟨(by kernel_rfl), (by kernel_rfl)⟩ (by kernel_rfl)) (fun _ => rfl))) (qOr1 (qNe 3 rfl (units64 hr) (dVar 4 (by kernel_rfl) (by kernel_rfl) (by kernel_rfl) (by kernel_rfl)) (dCall (n := 2) rfl c__law_due hr (by decide) tk rfl (dCons (dVar 2 (by kernel_rfl) (by kernel_rfl) (by kernel_rfl) (by kernel_rfl)) (dCons dInt dNil (by kernel_rfl)) (by kernel_rfl)) (al_cons (al_cons al_nil)) (by kernel_rfl) (by kernel_rfl) ⟨(by kernel_rfl), (by kernel_rfl)⟩))))
    (dOne (dRet dBl))
    dSkip)
    (dSeq (dExpr (dAppend (dVar 4 (by kernel_rfl) (by kernel_rfl) (by kernel_rfl) (by kernel_rfl)) (dTup (dCons dInt (dCons dInt dNil (by kernel_rfl)) (by kernel_rfl))) rfl (by kernel_rfl) (pe_bm PySem.F.plainAttrs_list PySem.F.slot_list_append PySem.F.type_list_append mt_append (dVar 4 (by kernel_rfl) (by kernel_rfl) (by kernel_rfl) (by kernel_rfl)) (dCons (dTup (dCons dInt (dCons dInt dNil (by kernel_rfl)) (by kernel_rfl))) dNil (by kernel_rfl)))) (by kernel_rfl))
    (dSeq (dIf (qNe 3 rfl (units64 hr) (dMethK0 rfl om_Rising_levels hr (by decide) tk (dVar 3 (by kernel_rfl) (by kernel_rfl) (by kernel_rfl) (by kernel_rfl)) (by rfl)) (dCall (n := 2) rfl c__law_due hr (by decide) tk rfl (dCons (dVar 2 (by kernel_rfl) (by kernel_rfl) (by kernel_rfl) (by kernel_rfl)) (dCons dInt dNil (by kernel_rfl)) (by kernel_rfl)) (al_cons (al_cons al_nil)) (by kernel_rfl) (by kernel_rfl) ⟨(by kernel_rfl), (by kernel_rfl)⟩))
    (dOne (dRet dBl))
    dSkip)
    (dSeq (dFor PassesOwn.leaving rfl (iRange2 dInt dInt fx.b_range (by kernel_rfl) (by kernel_rfl) (by kernel_rfl) (by kernel_rfl) (by kernel_rfl)) (gName sc_law.nd (by kernel_rfl) (by kernel_rfl) (Or.inl rfl))
    (dOne (dIf (qNe 3 rfl (units64 hr) (dMethK1 rfl om_Rising_levels hr (by decide) tk (dVar 3 (by kernel_rfl) (by kernel_rfl) (by kernel_rfl) (by kernel_rfl)) (dVar 5 (by kernel_rfl) (by kernel_rfl) (by kernel_rfl) (by kernel_rfl)) (by rfl) (by rfl) (by rfl) (by rfl)) (dCall (n := 2) rfl c__law_due hr (by decide) tk rfl (dCons (dVar 2 (by kernel_rfl) (by kernel_rfl) (by kernel_rfl) (by kernel_rfl)) (dCons (dVar 5 (by kernel_rfl) (by kernel_rfl) (by kernel_rfl) (by kernel_rfl)) dNil (by kernel_rfl)) (by kernel_rfl)) (al_cons (al_cons al_nil)) (by kernel_rfl) (by kernel_rfl) ⟨(by kernel_rfl), (by kernel_rfl)⟩))
    (dOne (dRet dBl))
    dSkip)) (fun _ => rfl))
    (dSeq (dFor PassesOwn.leaving rfl (iSeq' rfl (dLst (dCons dInt (dCons dInt (dCons (dNeg (dPow dInt dInt)) (dCons dBl (dCons dNon dNil (by kernel_rfl)) (by kernel_rfl)) (by kernel_rfl)) (by kernel_rfl)) (by kernel_rfl)))) (gName sc_law.nd (by kernel_rfl) (by kernel_rfl) (Or.inl rfl))
    (dOne (dIf (qNe 3 rfl (units64 hr) (dCall (n := 2) rfl c__law_told hr (by decide) tk rfl (dCons (dVar 3 (by kernel_rfl) (by kernel_rfl) (by kernel_rfl) (by kernel_rfl)) (dCons (dVar 5 (by kernel_rfl) (by kernel_rfl) (by kernel_rfl) (by kernel_rfl)) dNil (by kernel_rfl)) (by kernel_rfl)) (al_cons (al_cons al_nil)) (by kernel_rfl) (by kernel_rfl) ⟨(by kernel_rfl), (by kernel_rfl)⟩) (dTup (dCons dStr (dCons (dVar 5 (by kernel_rfl) (by kernel_rfl) (by kernel_rfl) (by kernel_rfl)) dNil (by kernel_rfl)) (by kernel_rfl))))
    (dOne (dRet dBl))
    dSkip)) (fun _ => rfl))
    (dOne (dRet dBl)))))))))))
end
end K06

set_option maxHeartbeats 4000000
namespace K06
open PySem L2 ML
theorem start_spec (ns : List Int) (h : Hm) (hr : rd h 0 = some (ns.map U.int)) :
    ∃ a b : Int, 0 ≤ a ∧ m__law_start [.ref 0] h = some (.ok (.ref h.length) (h ++ [.lst [.int a, .int b, .int 1, .int 0]])) := by
  unfold m__law_start mfun b__law_start
  cases ns with
  | nil =>
    simp [ML.mSeq, ML.mSet, ML.mIf, ML.mRet, ML.mVar, ML.mC, ML.mOp, ML.mCB, ML.mCons, ML.mNil, ML.mB, ML.toB, ML.mLst, ML.mTup, ML.mSkip, ML.mSetIx, ML.mTAnd, ML.mTOr, ML.mTNot, ML.mAnd, ML.mOr, ML.mNot, ML.mIfE, ML.mIsN, ML.mBM, ML.mChain, ML.bndS, ML.mRetN, ML.mDrop, ML.mNeg, fLen, hr, cPow, LIM]
  | cons n ns =>
    simp [ML.mSeq, ML.mSet, ML.mIf, ML.mRet, ML.mVar, ML.mC, ML.mOp, ML.mCB, ML.mCons, ML.mNil, ML.mB, ML.toB, ML.mLst, ML.mTup, ML.mSkip, ML.mSetIx, ML.mTAnd, ML.mTOr, ML.mTNot, ML.mAnd, ML.mOr, ML.mNot, ML.mIfE, ML.mIsN, ML.mBM, ML.mChain, ML.bndS, ML.mRetN, ML.mDrop, ML.mNeg, fLen, hr, ev_ix hr (atI_0), cPow, LIM]
    split <;> omega
section
variable {x y z w : U}
theorem at4_0 : atI [x, y, z, w] (0 : Int) = some x := rfl
theorem at4_1 : atI [x, y, z, w] (1 : Int) = some y := rfl
theorem at4_2 : atI [x, y, z, w] (2 : Int) = some z := rfl
theorem at4_3 : atI [x, y, z, w] (3 : Int) = some w := rfl
theorem atI_in {α : Type} {xs : List α} {i : Int} (h0 : 0 ≤ i) (h1 : i < xs.length) : ∃ y ∈ xs, atI xs i = some y := by
  have h2 : i.toNat < xs.length := by omega
  refine ⟨xs[i.toNat], List.getElem_mem h2, ?_⟩
  unfold atI ixN
  rw [if_pos h0, if_pos h1]
  simp [h2]
end
def mixA (a cell d : Int) : Int := (a.fmod 2147483647 * 48271 + cell.fmod 2147483629 + 7 * (d + 1) + 11).fmod 2147483647
def mixR (a d lim : Int) : Int := (((a * 69621 + (d + 1)).fmod 2147483629).fdiv 13).fmod lim
theorem draw_spec (ns : List Int) (h : Hm) (l : Nat) (a b c d lim : Int) (hl0 : 0 ≠ l) (hr : rd h 0 = some (ns.map U.int)) (hl : h[l]? = some (.lst [.int a, .int b, .int c, .int d])) (ha : 0 ≤ a) (hlim : 0 < lim) (hlim2 : lim < 1073741824) :
    ∃ r a' b' c' : Int, 0 ≤ a' ∧ 0 ≤ r ∧ r < lim ∧ m__law_draw [.ref 0, .ref l, .int lim] h = some (.ok (.int r) (h.set l (.lst [.int a', .int b', .int c', .int (d + 1)]))) := by
  have hrd : rd h l = some [.int a, .int b, .int c, .int d] := ev_rdL hl
  have s2 : ∀ c, (h.set l c)[l]? = some c := fun c => by
    rw [List.getElem?_set_self (List.getElem?_eq_some_iff.mp hl).1]
  have s1 : ∀ ws, rd (h.set l (.lst ws)) l = some ws := fun ws => ev_rdL (s2 _)
  have s3 : ∀ c, rd (h.set l c) 0 = some (ns.map U.int) := fun c => by
    rw [← hr]; unfold rd; rw [List.getElem?_set_ne (Ne.symm hl0)]
  have h1 : lim ≠ 0 := by omega
  have h2 : lim.natAbs < 1073741824 := by omega
  have fm0 : ∀ (x : Int) {y : Int}, 0 < y → 0 ≤ x.fmod y := fun x y hy => Int.fmod_nonneg_of_pos x hy
  have fm1 : ∀ (x : Int) {y : Int}, 0 < y → x.fmod y < y := fun x y hy => Int.fmod_lt_of_pos x hy
  by_cases hc : b = 1 ∧ 0 < a
  · obtain ⟨rfl, ha0⟩ := hc
    refine ⟨a.fmod lim, a.fdiv lim, 1, c, Int.fdiv_nonneg ha (by omega), fm0 a hlim, fm1 a hlim, ?_⟩
    unfold m__law_draw mfun b__law_draw
    simp [ML.mSeq, ML.mSet, ML.mIf, ML.mRet, ML.mVar, ML.mC, ML.mOp, ML.mCB, ML.mCons, ML.mNil, ML.mB, ML.toB, ML.mLst, ML.mTup, ML.mSkip, ML.mSetIx, ML.mTAnd, ML.mTOr, ML.mTNot, ML.mAnd, ML.mOr, ML.mNot, ML.mIfE, ML.mIsN, ML.mBM, ML.mChain, ML.bndS, ML.mRetN, ML.mDrop, ML.mNeg, oIx, hrd, s1, s2, s3, hl, at4_0, at4_1, at4_2, at4_3, ixN, ha0, cDivN, h1, h2]
  · have hcell : ∃ cell : Int, ns = [] ∧ cell = 0 ∨ ns ≠ [] ∧ atI (ns.map U.int) (c.fmod ns.length) = some (.int cell) := by
      cases ns with
      | nil => exact ⟨0, .inl ⟨rfl, rfl⟩⟩
      | cons n ns =>
        obtain ⟨y, hy, e⟩ := atI_in (xs := (n :: ns).map U.int) (i := c.fmod ((n :: ns).length : Int)) (fm0 _ (by simp only [List.length_cons]; omega)) (by rw [List.length_map]; exact fm1 _ (by simp only [List.length_cons]; omega))
        obtain ⟨x, _, rfl⟩ := List.mem_map.mp hy
        exact ⟨x, .inr ⟨by simp, e⟩⟩
    obtain ⟨cell, hcell⟩ := hcell
    refine ⟨mixR (mixA a cell d) d lim, mixA a cell d, 0, c + 1, fm0 _ (by decide), fm0 _ hlim, fm1 _ hlim, ?_⟩
    unfold m__law_draw mfun b__law_draw
    rcases hcell with ⟨rfl, rfl⟩ | ⟨hns, hcell⟩
    · by_cases hb1 : b = 1
      · have ha0 : ¬ (0 < a) := fun q => hc ⟨hb1, q⟩
        simp [ML.mSeq, ML.mSet, ML.mIf, ML.mRet, ML.mVar, ML.mC, ML.mOp, ML.mCB, ML.mCons, ML.mNil, ML.mB, ML.toB, ML.mLst, ML.mTup, ML.mSkip, ML.mSetIx, ML.mTAnd, ML.mTOr, ML.mTNot, ML.mAnd, ML.mOr, ML.mNot, ML.mIfE, ML.mIsN, ML.mBM, ML.mChain, ML.bndS, ML.mRetN, ML.mDrop, ML.mNeg, oIx, hrd, s1, s2, s3, hl, at4_0, at4_1, at4_2, at4_3, ixN, hb1, ha0, cDivN, h1, h2, fLen, cMul, mixA, mixR]
      · simp [ML.mSeq, ML.mSet, ML.mIf, ML.mRet, ML.mVar, ML.mC, ML.mOp, ML.mCB, ML.mCons, ML.mNil, ML.mB, ML.toB, ML.mLst, ML.mTup, ML.mSkip, ML.mSetIx, ML.mTAnd, ML.mTOr, ML.mTNot, ML.mAnd, ML.mOr, ML.mNot, ML.mIfE, ML.mIsN, ML.mBM, ML.mChain, ML.bndS, ML.mRetN, ML.mDrop, ML.mNeg, oIx, hrd, s1, s2, s3, hl, at4_0, at4_1, at4_2, at4_3, ixN, hb1, cDivN, h1, h2, fLen, cMul, mixA, mixR]
    · have hlen' : 0 < ns.length := List.length_pos_iff.mpr hns
      have hlen : (0 : Int) < ns.length := by omega
      have hlen2 : ¬ ((ns.length : Int) = 0) := by omega
      by_cases hb1 : b = 1
      · have ha0 : ¬ (0 < a) := fun q => hc ⟨hb1, q⟩
        simp [ML.mSeq, ML.mSet, ML.mIf, ML.mRet, ML.mVar, ML.mC, ML.mOp, ML.mCB, ML.mCons, ML.mNil, ML.mB, ML.toB, ML.mLst, ML.mTup, ML.mSkip, ML.mSetIx, ML.mTAnd, ML.mTOr, ML.mTNot, ML.mAnd, ML.mOr, ML.mNot, ML.mIfE, ML.mIsN, ML.mBM, ML.mChain, ML.bndS, ML.mRetN, ML.mDrop, ML.mNeg, oIx, hrd, s1, s2, s3, hl, at4_0, at4_1, at4_2, at4_3, ixN, hb1, ha0, cDivN, h1, h2, fLen, cMul, mixA, mixR, hcell, hlen', hlen, hlen2, hns]
      · simp [ML.mSeq, ML.mSet, ML.mIf, ML.mRet, ML.mVar, ML.mC, ML.mOp, ML.mCB, ML.mCons, ML.mNil, ML.mB, ML.toB, ML.mLst, ML.mTup, ML.mSkip, ML.mSetIx, ML.mTAnd, ML.mTOr, ML.mTNot, ML.mAnd, ML.mOr, ML.mNot, ML.mIfE, ML.mIsN, ML.mBM, ML.mChain, ML.bndS, ML.mRetN, ML.mDrop, ML.mNeg, oIx, hrd, s1, s2, s3, hl, at4_0, at4_1, at4_2, at4_3, ixN, hb1, cDivN, h1, h2, fLen, cMul, mixA, mixR, hcell, hlen', hlen, hlen2, hns]
theorem seq_nx {a b : MS} {ρ ρ1 : Ev} {h h1 : Hm} (e : a ρ h = some (.nx ρ1 h1)) : mSeq a b ρ h = b ρ1 h1 := by unfold mSeq; rw [e]
/-- the script stands, and the state -/
def Good (ns : List Int) (h : Hm) : Prop := rd h 0 = some (ns.map U.int) ∧ ∃ a b c d : Int, 0 ≤ a ∧ h[1]? = some (.lst [.int a, .int b, .int c, .int d])
theorem drawC {ns : List Int} {h : Hm} (g : Good ns h) (lim : Int) (h1 : 0 < lim) (h2 : lim < 1073741824) : ∃ (r : Int) (h' : Hm), 0 ≤ r ∧ r < lim ∧ Good ns h' ∧ (∀ i, i ≠ 1 → h'[i]? = h[i]?) ∧ h'.length = h.length ∧ m__law_draw [.ref 0, .ref 1, .int lim] h = some (.ok (.int r) h') := by
  obtain ⟨g0, a, b, c, d, ha, g1⟩ := g
  obtain ⟨r, a', b', c', ha', hr0, hr1, e⟩ := draw_spec ns h 1 a b c d lim (by decide) g0 g1 ha h1 h2
  refine ⟨r, _, hr0, hr1, ⟨?_, a', b', c', d + 1, ha', ?_⟩, fun i hi => by rw [List.getElem?_set_ne (Ne.symm hi)], by simp, e⟩
  · rw [← g0]; unfold rd; rw [List.getElem?_set_ne (by decide)]
  · rw [List.getElem?_set_self (List.getElem?_eq_some_iff.mp g1).1]
theorem Good.app {ns : List Int} {h : Hm} (g : Good ns h) (e : Hm) : Good ns (h ++ e) := by
  obtain ⟨g0, a, b, c, d, ha, g1⟩ := g
  have l1 := (List.getElem?_eq_some_iff.mp g1).1
  refine ⟨?_, a, b, c, d, ha, ?_⟩
  · rw [← g0]; unfold rd; rw [List.getElem?_append_left (by omega)]
  · rw [List.getElem?_append_left l1]; exact g1
theorem Good.at_ {ns : List Int} {h h' : Hm} (g : Good ns h) (e0 : h'[0]? = h[0]?) (e1 : h'[1]? = h[1]?) : Good ns h' := by
  obtain ⟨g0, a, b, c, d, ha, g1⟩ := g
  refine ⟨?_, a, b, c, d, ha, by rw [e1]; exact g1⟩
  rw [← g0]; unfold rd; rw [e0]
theorem Good.len {ns : List Int} {h : Hm} (g : Good ns h) : 2 ≤ h.length := by
  obtain ⟨g0, a, b, c, d, ha, g1⟩ := g
  have := (List.getElem?_eq_some_iff.mp g1).1
  omega
end K06

set_option maxHeartbeats 4000000
/-! the program's shortest, over rows of numbers -/
namespace K06
open PySem L2 ML
def rowU (r : RM.Row) : U := .tup [.int r.1, .int r.2.1, .bl r.2.2]
def rowsU (rs : List RM.Row) : List U := rs.map rowU
def stU : Option Int → U
  | none => .non
  | some i => .int i
theorem row_value_spec (r : RM.Row) (m : Int) (h : Hm) : m_row_value [rowU r, .int m] h = some (.ok (.int (RM.rv r m)) h) := by
  obtain ⟨s, v, g⟩ := r
  refine fun_r rfl ?_
  unfold b_row_value
  show mSeq _ _ [some (rowU (s, v, g)), some (.int m), none, none, none] h = _
  rw [seq_n (ρ1 := [some (rowU (s, v, g)), some (.int m), some (.int s), some (.int v), some (.bl g)]) (asg_s (var_e rfl) rfl)]
  refine ret_s ?_
  cases g with
  | true => exact ifE_t (b_e (var_e rfl)) (op_e (op_e (var_e rfl) (var_e rfl) rfl) (var_e rfl) rfl)
  | false => exact ifE_f (b_e (var_e rfl)) (var_e rfl)
theorem greater_spec (a b : Int) (h : Hm) : m_greater [.int a, .int b] h = some (.ok (.int (if a ≥ b then a else b)) h) := by
  refine fun_r rfl ?_
  unfold b_greater
  refine ret_s ?_
  by_cases q : a ≥ b
  · rw [if_pos q]
    exact ifE_t (tst_e (var_e rfl) (var_e rfl) (ge_t q)) (var_e rfl)
  · rw [if_neg q]
    exact ifE_f (tst_e (var_e rfl) (var_e rfl) (ge_f q)) (var_e rfl)
theorem lesser_spec (a b : Int) (h : Hm) : m_lesser [.int a, .int b] h = some (.ok (.int (if a ≤ b then a else b)) h) := by
  refine fun_r rfl ?_
  unfold b_lesser
  refine ret_s ?_
  by_cases q : a ≤ b
  · rw [if_pos q]
    exact ifE_t (tst_e (var_e rfl) (var_e rfl) (le_t q)) (var_e rfl)
  · rw [if_neg q]
    exact ifE_f (tst_e (var_e rfl) (var_e rfl) (le_f q)) (var_e rfl)
/-- rows in a list or a tuple -/
def Holds (h : Hm) (R : U) (us : List U) : Prop := (∃ L, R = .ref L ∧ rd h L = some us) ∨ R = .tup us
theorem Holds.len {h : Hm} {R : U} {us : List U} (q : Holds h R us) : fLen [R] h = some (.ok (.int us.length) h) := by
  rcases q with ⟨L, rfl, e⟩ | rfl
  · exact ev_len e
  · exact ev_lenT
theorem Holds.ix {h : Hm} {R : U} {us : List U} {k : Nat} {i : Int} {w : U} (q : Holds h R us) (hi : i = (k : Int)) (e : us[k]? = some w) : oIx R (.int i) h = some (.ok w h) := by
  rcases q with ⟨L, rfl, e2⟩ | rfl
  · exact ev_ix e2 (ix_at hi e)
  · exact ev_ixT (ix_at hi e)
theorem Holds.to {h h' : Hm} {R : U} {us : List U} (q : Holds h R us) (hr : ∀ L, R = .ref L → rd h' L = rd h L) : Holds h' R us := by
  rcases q with ⟨L, rfl, e⟩ | rfl
  · exact .inl ⟨L, rfl, by rw [hr L rfl]; exact e⟩
  · exact .inr rfl
theorem start_of_spec {h : Hm} {R : U} {rs : List RM.Row} (q : Holds h R (rowsU rs)) (k : Nat) : m_start_of [R, .int (k : Int)] h = some (.ok (match rs[k]? with | some r => .int r.1 | none => .non) h) := by
  refine fun_r rfl ?_
  unfold b_start_of
  refine ret_s ?_
  cases e : rs[k]? with
  | none =>
    have hk : rs.length ≤ k := by
      rw [List.getElem?_eq_none_iff] at e
      exact e
    exact ifE_f (tst_e (var_e rfl) (cb_e (cons_e (var_e rfl) nil_e) q.len) (lt_f (by simp [rowsU]; omega))) c_e
  | some r =>
    have hk := (List.getElem?_eq_some_iff.mp e).1
    exact ifE_t (tst_e (var_e rfl) (cb_e (cons_e (var_e rfl) nil_e) q.len) (lt_t (by simp [rowsU]; omega))) (op_e (op_e (var_e rfl) (var_e rfl) (q.ix (w := rowU r) rfl (by simp [rowsU, e]))) c_e rfl)
section
variable {R : U} {us : List U}
noncomputable abbrev bodyM : MS := (mSeq (mSet 10 (mCB m_row_value (mCons (mVar 7) (mCons (mVar 9) mNil))))
    (mSeq (mSet 11 (mOp oSub (mVar 10) (mVar 5)))
    (mSeq (mIf (mTAnd (mB (mIsN false (mVar 4))) (mB (mOp (oInA false) (mVar 11) (mTup (mCons (mC (.int 0)) (mCons (mC (.int 1)) mNil))))))
    (mSet 4 (mVar 11))
    (mIf (mB (mOp (oNe 3) (mVar 11) (mVar 4)))
    (mSeq (mDrop (mBM kList fAppend (mVar 1) (mCons (mTup (mCons (mVar 2) (mCons (mVar 3) (mCons (mOp (oEq 3) (mVar 4) (mC (.int 1))) mNil)))) mNil)))
    (mPar3 2 3 4 (mCons (mVar 9) (mCons (mVar 10) (mCons (mC .non) mNil)))))
    mSkip))
    (mSet 5 (mVar 10)))))
abbrev envS (R : U) (D : Nat) (s : RM.S) (o6 o7 o8 o9 o10 o11 : Option U) : Ev := [some R, some (.ref D), some (.int s.b), some (.int s.f), some (stU s.st), some (.int s.la), o6, o7, o8, o9, o10, o11]
theorem in01 (i : Int) (h : Hm) : oInA false (.int i) (.tup [.int 0, .int 1]) h = some (.ok (.bl (decide (i = 0 ∨ i = 1))) h) := by
  have : inF (.int i) [.int 0, .int 1] = decide (i = 0 ∨ i = 1) := by
    unfold inF
    simp only [List.any_cons, List.any_nil, eqF, Bool.or_false]
    by_cases a : i = 0
    · subst a; rfl
    · by_cases b : i = 1
      · subst b; rfl
      · have a' : ¬ 0 = i := fun q => a q.symm
        have b' : ¬ 1 = i := fun q => b q.symm
        simp [a, b, a', b']
  simp [oInA, oInC, oIn, flatU, this]
theorem ne_st (i : Int) (st : Option Int) (h : Hm) : oNe 3 (.int i) (stU st) h = some (.ok (.bl (decide (st ≠ some i))) h) := by
  cases st with
  | none => simp [stU, oNe, oEqS, sEq]
  | some j =>
    simp only [stU, ev_neI]
    by_cases q : i = j
    · subst q; simp
    · have : ¬ j = i := fun z => q z.symm
      simp [q, this]
theorem eq_st1 (st : Option Int) (h : Hm) : oEq 3 (stU st) (.int 1) h = some (.ok (.bl (decide (st = some 1))) h) := by
  cases st with
  | none => simp [stU, oEq, oEqS, sEq]
  | some j => simp [stU]
theorem isn_st (st : Option Int) : (isNon (stU st) != false) = decide (st = none) := by
  cases st <;> rfl
theorem minute_turn (r : RM.Row) (m : Int) (s : RM.S) {h : Hm} (hl : s.done.length < 900000) (o6 o8 o10 o11 : Option U) :
    ∃ p10 p11, bodyM (envS R h.length s o6 (some (rowU r)) o8 (some (.int m)) o10 o11) (h ++ [.lst (rowsU s.done)]) = some (.nx (envS R h.length (RM.stp s m (RM.rv r m)) o6 (some (rowU r)) o8 (some (.int m)) p10 p11) (h ++ [.lst (rowsU (RM.stp s m (RM.rv r m)).done)])) := by
  obtain ⟨H, hH⟩ : ∃ H, H = h ++ [Cell.lst (rowsU s.done)] := ⟨_, rfl⟩
  refine ⟨some (.int (RM.rv r m)), some (.int (RM.rv r m - s.la)), ?_⟩
  rw [← hH]
  unfold bodyM
  rw [seq_n (ρ1 := envS R h.length s o6 (some (rowU r)) o8 (some (.int m)) (some (.int (RM.rv r m))) o11) (h1 := H) (set_s (cb_e (cons_e (var_e rfl) (cons_e (var_e rfl) nil_e)) (row_value_spec r m H)))]
  rw [seq_n (ρ1 := envS R h.length s o6 (some (rowU r)) o8 (some (.int m)) (some (.int (RM.rv r m))) (some (.int (RM.rv r m - s.la)))) (h1 := H) (set_s (op_e (var_e rfl) (var_e rfl) rfl))]
  generalize RM.rv r m = v
  have t1 : mB (mIsN false (mVar 4)) (envS R h.length s o6 (some (rowU r)) o8 (some (.int m)) (some (.int v)) (some (.int (v - s.la)))) H = some (.ok (decide (s.st = none)) H) := by
    rw [← isn_st]; exact b_e (isn_e (var_e rfl))
  have t2 : mB (mOp (oInA false) (mVar 11) (mTup (mCons (mC (.int 0)) (mCons (mC (.int 1)) mNil)))) (envS R h.length s o6 (some (rowU r)) o8 (some (.int m)) (some (.int v)) (some (.int (v - s.la)))) H = some (.ok (decide (v - s.la = 0 ∨ v - s.la = 1)) H) :=
    tst_e (var_e rfl) (tup_e (cons_e c_e (cons_e c_e nil_e)) (by decide)) (in01 _ _)
  have t3 : mB (mOp (oNe 3) (mVar 11) (mVar 4)) (envS R h.length s o6 (some (rowU r)) o8 (some (.int m)) (some (.int v)) (some (.int (v - s.la)))) H = some (.ok (decide (s.st ≠ some (v - s.la))) H) :=
    tst_e (var_e rfl) (var_e rfl) (ne_st _ _ _)
  unfold RM.stp
  by_cases q : s.st = none ∧ (v - s.la = 0 ∨ v - s.la = 1)
  · rw [if_pos q]
    rw [decide_eq_true q.1] at t1
    rw [decide_eq_true q.2] at t2
    rw [seq_n (ρ1 := envS R h.length { s with st := some (v - s.la) } o6 (some (rowU r)) o8 (some (.int m)) (some (.int v)) (some (.int (v - s.la)))) (h1 := H) ((if_t (and_t t1 t2)).trans (set_s (var_e rfl)))]
    rw [hH]
    exact set_s (var_e rfl)
  · rw [if_neg q]
    have t12 : mTAnd (mB (mIsN false (mVar 4))) (mB (mOp (oInA false) (mVar 11) (mTup (mCons (mC (.int 0)) (mCons (mC (.int 1)) mNil))))) (envS R h.length s o6 (some (rowU r)) o8 (some (.int m)) (some (.int v)) (some (.int (v - s.la)))) H = some (.ok false H) := by
      by_cases q1 : s.st = none
      · rw [decide_eq_true q1] at t1
        rw [decide_eq_false fun z => q ⟨q1, z⟩] at t2
        exact and_t t1 t2
      · rw [decide_eq_false q1] at t1
        exact and_f t1
    by_cases q3 : s.st ≠ some (v - s.la)
    · rw [if_pos q3]
      rw [decide_eq_true q3] at t3
      have hD : H[h.length]? = some (.lst (rowsU s.done)) := by rw [hH]; simp
      have ea : mDrop (mBM kList fAppend (mVar 1) (mCons (mTup (mCons (mVar 2) (mCons (mVar 3) (mCons (mOp (oEq 3) (mVar 4) (mC (.int 1))) mNil)))) mNil)) (envS R h.length s o6 (some (rowU r)) o8 (some (.int m)) (some (.int v)) (some (.int (v - s.la)))) H = some (.nx (envS R h.length s o6 (some (rowU r)) o8 (some (.int m)) (some (.int v)) (some (.int (v - s.la)))) (h ++ [.lst (rowsU (s.done ++ [(s.b, s.f, decide (s.st = some 1))]))])) := by
        refine drop_s (w := .non) ((app_l (var_e rfl) (tup_e (cons_e (var_e rfl) (cons_e (var_e rfl) (cons_e (op_e (var_e rfl) c_e (eq_st1 _ _)) nil_e))) (by show 3 ≤ 1000000; decide)) hD (by show _ < 1000000; simp [rowsU]; omega) (klist hD)).trans ?_)
        rw [hH, set_end rfl]
        simp [rowsU, rowU]
      rw [seq_n (ρ1 := envS R h.length ⟨s.done ++ [(s.b, s.f, decide (s.st = some 1))], m, v, none, s.la⟩ o6 (some (rowU r)) o8 (some (.int m)) (some (.int v)) (some (.int (v - s.la)))) (h1 := h ++ [.lst (rowsU (s.done ++ [(s.b, s.f, decide (s.st = some 1))]))])
        ((if_f t12).trans ((if_t t3).trans ((seq_n ea).trans (by unfold mPar3; rw [cons_e (var_e rfl) (cons_e (var_e rfl) (cons_e c_e nil_e))]; rfl))))]
      exact set_s (var_e rfl)
    · rw [if_neg q3]
      rw [decide_eq_false q3] at t3
      rw [seq_n (ρ1 := envS R h.length s o6 (some (rowU r)) o8 (some (.int m)) (some (.int v)) (some (.int (v - s.la)))) (h1 := H) ((if_f t12).trans ((if_f t3).trans skip_s))]
      rw [hH]
      exact set_s (var_e rfl)
theorem minutes_loop (r : RM.Row) {h : Hm} (o6 o8 : Option U) : ∀ (n : Nat) (lo : Int) (s : RM.S) (o9 o10 o11 : Option U), s.done.length + n < 900000 →
    ∃ p9 p10 p11, forC (fun _ => True) (gN 9) bodyM (rItems lo n) (envS R h.length s o6 (some (rowU r)) o8 o9 o10 o11) (h ++ [.lst (rowsU s.done)]) = some (.nx (envS R h.length (RM.runV (RM.rv r) lo n s) o6 (some (rowU r)) o8 p9 p10 p11) (h ++ [.lst (rowsU (RM.runV (RM.rv r) lo n s).done)]))
  | 0, lo, s, o9, o10, o11, hl => ⟨o9, o10, o11, for_nil (chk := fun _ => True) trivial⟩
  | n + 1, lo, s, o9, o10, o11, hl => by
    obtain ⟨p10, p11, e1⟩ := minute_turn (R := R) r lo s (h := h) (by omega) o6 o8 o10 o11
    have h2 := RM.stp_len s lo (RM.rv r lo)
    obtain ⟨q9, q10, q11, e2⟩ := minutes_loop r o6 o8 (h := h) n (lo + 1) (RM.stp s lo (RM.rv r lo)) (some (.int lo)) p10 p11 (by omega)
    refine ⟨q9, q10, q11, ?_⟩
    rw [rItems_succ]
    exact (for_cons (chk := fun _ => True) (g := gN 9) (w := .int lo) (ρ := envS R h.length s o6 (some (rowU r)) o8 o9 o10 o11) (ρ1 := envS R h.length s o6 (some (rowU r)) o8 (some (.int lo)) o10 o11) trivial rfl e1).trans e2
end
end K06

set_option maxHeartbeats 4000000
namespace K06
open PySem L2 ML
noncomputable abbrev bodyP : MS := (mSeq (mSet 8 (mCB m_start_of (mCons (mVar 0) (mCons (mOp oAdd (mVar 6) (mC (.int 1))) mNil))))
    (mSeq (mIf (mB (mIsN false (mVar 8)))
    (mSet 8 (mOp oAdd (mOp oIx (mVar 7) (mC (.int 0))) (mC (.int 3))))
    mSkip)
    (mSeq (mFor (iR2 (mCB m_greater (mCons (mOp oIx (mVar 7) (mC (.int 0))) (mCons (mC (.int 1)) mNil))) (mCB m_lesser (mCons (mVar 8) (mCons (mOp oAdd (mOp oIx (mVar 7) (mC (.int 0))) (mC (.int 3))) mNil)))) (gN 9) bodyM)
    (mSet 5 (mCB m_row_value (mCons (mVar 7) (mCons (mOp oSub (mVar 8) (mC (.int 1))) mNil)))))))
abbrev gPR : MG := (gT 2 (gC (gN 6) (gC (gN 7) gE)))
theorem row_ix0 (r : RM.Row) (h : Hm) : oIx (rowU r) (.int 0) h = some (.ok (.int r.1) h) := rfl
theorem row_ix1 (r : RM.Row) (h : Hm) : oIx (rowU r) (.int 1) h = some (.ok (.int r.2.1) h) := rfl
theorem row_ix2 (r : RM.Row) (h : Hm) : oIx (rowU r) (.int 2) h = some (.ok (.bl r.2.2) h) := rfl
theorem row_turn {L : Nat} {h : Hm} {pre rest : List RM.Row} {r : RM.Row} (hL : h[L]? = some (.lst (rowsU (pre ++ r :: rest)))) (hb : 0 ≤ r.1 ∧ r.1 ≤ 100000000) (hb2 : 0 ≤ RM.afterOf rest r ∧ RM.afterOf rest r ≤ 200000000) (s : RM.S) (hl : s.done.length + 3 < 900000) (o8 o9 o10 o11 : Option U) :
    ∃ p9 p10 p11, bodyP (envS (.ref L) h.length s (some (.int (pre.length : Int))) (some (rowU r)) o8 o9 o10 o11) (h ++ [.lst (rowsU s.done)]) = some (.nx (envS (.ref L) h.length (RM.runR r (RM.afterOf rest r) s) (some (.int (pre.length : Int))) (some (rowU r)) (some (.int (RM.afterOf rest r))) p9 p10 p11) (h ++ [.lst (rowsU (RM.runR r (RM.afterOf rest r) s).done)])) := by
  obtain ⟨af, haf⟩ : ∃ af, af = RM.afterOf rest r := ⟨_, rfl⟩
  rw [← haf] at hb2 ⊢
  obtain ⟨n, hn⟩ : ∃ n, n = ((if af ≤ r.1 + 3 then af else r.1 + 3) - (if r.1 ≥ 1 then r.1 else 1)).toNat := ⟨_, rfl⟩
  have hn3 : n ≤ 3 := by rw [hn]; split <;> split <;> omega
  obtain ⟨p9, p10, p11, e1⟩ := minutes_loop (R := .ref L) r (h := h) (some (.int (pre.length : Int))) (some (.int af)) n (if r.1 ≥ 1 then r.1 else 1) s o9 o10 o11 (by omega)
  refine ⟨p9, p10, p11, ?_⟩
  obtain ⟨H, hH⟩ : ∃ H, H = h ++ [Cell.lst (rowsU s.done)] := ⟨_, rfl⟩
  rw [← hH] at e1 ⊢
  have hq : Holds H (.ref L) (rowsU (pre ++ r :: rest)) := .inl ⟨L, rfl, lst_at (by rw [hH]; exact app_at _ hL)⟩
  have es := start_of_spec hq (pre.length + 1)
  have e8 : mSet 8 (mCB m_start_of (mCons (mVar 0) (mCons (mOp oAdd (mVar 6) (mC (.int 1))) mNil))) (envS (.ref L) h.length s (some (.int (pre.length : Int))) (some (rowU r)) o8 o9 o10 o11) H = some (.nx (envS (.ref L) h.length s (some (.int (pre.length : Int))) (some (rowU r)) (some (match (pre ++ r :: rest)[pre.length + 1]? with | some r => .int r.1 | none => .non)) o9 o10 o11) H) :=
    set_s (cb_e (cons_e (var_e rfl) (cons_e (op_e (var_e rfl) c_e ev_addI) nil_e)) es)
  unfold bodyP
  rw [seq_n e8]
  have hg : (pre ++ r :: rest)[pre.length + 1]? = rest.head? := by
    rw [List.getElem?_append_right (by omega)]
    cases rest <;> simp
  rw [hg]
  have e9 : mIf (mB (mIsN false (mVar 8))) (mSet 8 (mOp oAdd (mOp oIx (mVar 7) (mC (.int 0))) (mC (.int 3)))) mSkip (envS (.ref L) h.length s (some (.int (pre.length : Int))) (some (rowU r)) (some (match rest.head? with | some r => .int r.1 | none => .non)) o9 o10 o11) H = some (.nx (envS (.ref L) h.length s (some (.int (pre.length : Int))) (some (rowU r)) (some (.int af)) o9 o10 o11) H) := by
    cases rest with
    | nil =>
      rw [haf]
      exact (if_t (isn_b (x := .non) (var_e rfl) rfl)).trans (set_s (op_e (op_e (var_e rfl) c_e (row_ix0 _ _)) c_e ev_addI))
    | cons r2 rest =>
      rw [haf]
      exact (if_f (isn_b (x := .int r2.1) (var_e rfl) rfl)).trans skip_s
  rw [seq_n e9]
  have g1 : mCB m_greater (mCons (mOp oIx (mVar 7) (mC (.int 0))) (mCons (mC (.int 1)) mNil)) (envS (.ref L) h.length s (some (.int (pre.length : Int))) (some (rowU r)) (some (.int af)) o9 o10 o11) H = some (.ok (.int (if r.1 ≥ 1 then r.1 else 1)) H) :=
    cb_e (cons_e (op_e (var_e rfl) c_e (row_ix0 _ _)) (cons_e c_e nil_e)) (greater_spec _ _ _)
  have g2 : mCB m_lesser (mCons (mVar 8) (mCons (mOp oAdd (mOp oIx (mVar 7) (mC (.int 0))) (mC (.int 3))) mNil)) (envS (.ref L) h.length s (some (.int (pre.length : Int))) (some (rowU r)) (some (.int af)) o9 o10 o11) H = some (.ok (.int (if af ≤ r.1 + 3 then af else r.1 + 3)) H) :=
    cb_e (cons_e (var_e rfl) (cons_e (op_e (op_e (var_e rfl) c_e (row_ix0 _ _)) c_e ev_addI) nil_e)) (lesser_spec _ _ _)
  have hi := it_r2 g1 g2 (by split <;> omega) (by split <;> omega) (by split <;> omega) (by split <;> omega)
  rw [← hn] at hi
  rw [seq_n (for_e hi e1)]
  unfold RM.runR
  simp only
  rw [← hn]
  exact set_s (cb_e (cons_e (var_e rfl) (cons_e (op_e (var_e rfl) c_e rfl) nil_e)) (row_value_spec r (af - 1) _))
/-- starts in bounds -/
def Bd (rs : List RM.Row) : Prop := ∀ r ∈ rs, 0 ≤ r.1 ∧ r.1 ≤ 100000000
theorem after_bd {rest : List RM.Row} {r : RM.Row} (h : Bd (r :: rest)) : 0 ≤ RM.afterOf rest r ∧ RM.afterOf rest r ≤ 200000000 := by
  cases rest with
  | nil =>
    have := h r List.mem_cons_self
    show 0 ≤ r.1 + 3 ∧ r.1 + 3 ≤ 200000000
    omega
  | cons r2 rest =>
    have := h r2 (by simp)
    show 0 ≤ r2.1 ∧ r2.1 ≤ 200000000
    omega
theorem rows_loop {L : Nat} {h : Hm} : ∀ (rest pre : List RM.Row) (s : RM.S) (o6 o7 o8 o9 o10 o11 : Option U), h[L]? = some (.lst (rowsU (pre ++ rest))) → Bd rest → s.done.length + 3 * rest.length < 900000 →
    ∃ p6 p7 p8 p9 p10 p11, forC (fun h' => h'[L]? = some (.lst (rowsU (pre ++ rest)))) gPR bodyP (eItems pre.length (rowsU rest)) (envS (.ref L) h.length s o6 o7 o8 o9 o10 o11) (h ++ [.lst (rowsU s.done)]) = some (.nx (envS (.ref L) h.length (RM.runRs rest s) p6 p7 p8 p9 p10 p11) (h ++ [.lst (rowsU (RM.runRs rest s).done)]))
  | [], pre, s, o6, o7, o8, o9, o10, o11, hL, hb, hl => ⟨o6, o7, o8, o9, o10, o11, for_nil (chk := fun h' => h'[L]? = some (.lst (rowsU (pre ++ [])))) (app_at _ hL)⟩
  | r :: rest, pre, s, o6, o7, o8, o9, o10, o11, hL, hb, hl => by
    simp only [List.length_cons] at hl
    obtain ⟨p9, p10, p11, e1⟩ := row_turn hL (hb r List.mem_cons_self) (after_bd hb) s (by omega) o8 o9 o10 o11
    have h2 := RM.runR_len r (RM.afterOf rest r) s
    obtain ⟨q6, q7, q8, q9, q10, q11, e2⟩ := rows_loop (L := L) (h := h) rest (pre ++ [r]) (RM.runR r (RM.afterOf rest r) s) (some (.int (pre.length : Int))) (some (rowU r)) (some (.int (RM.afterOf rest r))) p9 p10 p11 (by simpa using hL) (fun x hx => hb x (List.mem_cons_of_mem _ hx)) (by omega)
    refine ⟨q6, q7, q8, q9, q10, q11, ?_⟩
    have e3 : pre ++ [r] ++ rest = pre ++ r :: rest := by simp
    rw [e3] at e2
    have e4 : (pre ++ [r]).length = pre.length + 1 := by simp
    rw [e4] at e2
    rw [show eItems pre.length (rowsU (r :: rest)) = .tup [.int (pre.length : Int), rowU r] :: eItems (pre.length + 1) (rowsU rest) from rfl]
    exact (for_cons (chk := fun h' => h'[L]? = some (.lst (rowsU (pre ++ r :: rest)))) (g := gPR) (w := .tup [.int (pre.length : Int), rowU r]) (ρ := envS (.ref L) h.length s o6 o7 o8 o9 o10 o11) (ρ1 := envS (.ref L) h.length s (some (.int (pre.length : Int))) (some (rowU r)) o8 o9 o10 o11) (app_at _ hL) rfl e1).trans e2
theorem shortest_spec {L : Nat} {h : Hm} {rs : List RM.Row} (hL : h[L]? = some (.lst (rowsU rs))) (hb : Bd rs) (hn : rs ≠ []) (hl : rs.length ≤ 100000) :
    ∃ E, m_shortest [.ref L] h = some (.ok (.tup (rowsU (RM.short rs))) (h ++ E)) := by
  cases rs with
  | nil => exact absurd rfl hn
  | cons r rs =>
    obtain ⟨s0, hs0⟩ : ∃ s0 : RM.S, s0 = ⟨[], 0, r.2.1, none, r.2.1⟩ := ⟨_, rfl⟩
    obtain ⟨p6, p7, p8, p9, p10, p11, e1⟩ := rows_loop (L := L) (h := h) (r :: rs) [] s0 none none none none none none hL hb (by rw [hs0]; simp at hl ⊢; omega)
    obtain ⟨s1, hs1⟩ : ∃ s1, s1 = RM.runRs (r :: rs) s0 := ⟨_, rfl⟩
    rw [← hs1] at e1
    have hlen : s1.done.length ≤ 3 * (r :: rs).length := by
      have key : ∀ (xs : List RM.Row) (s : RM.S), (RM.runRs xs s).done.length ≤ s.done.length + 3 * xs.length := by
        intro xs
        induction xs with
        | nil => intro s; simp [RM.runRs]
        | cons x xs ih =>
          intro s
          have := ih (RM.runR x (RM.afterOf xs x) s)
          have := RM.runR_len x (RM.afterOf xs x) s
          unfold RM.runRs
          simp only [List.length_cons]
          omega
      have := key (r :: rs) s0
      rw [← hs1] at this
      rw [hs0] at this
      simpa using this
    have hsh : RM.short (r :: rs) = s1.done ++ [(s1.b, s1.f, true)] := by
      have z : RM.short (r :: rs) = RM.fin (RM.runRs (r :: rs) ⟨[], 0, r.2.1, none, r.2.1⟩) := rfl
      rw [z, ← hs0, ← hs1]
      rfl
    refine ⟨[.lst (rowsU (RM.short (r :: rs)))], fun_r rfl ?_⟩
    unfold b_shortest
    show mSeq _ _ [some (.ref L), none, none, none, none, none, none, none, none, none, none, none] h = _
    have x0 : ∀ e, mOp oIx (mOp oIx (mVar 0) (mC (.int 0))) (mC (.int 1)) [some (.ref L), some (.ref h.length), none, none, none, none, none, none, none, none, none, none] (h ++ e) = some (.ok (.int r.2.1) (h ++ e)) := fun e => op_e (op_e (var_e rfl) c_e (ix_l (k := 0) (app_at _ hL) rfl rfl)) c_e (row_ix1 _ _)
    rw [seq_n (ρ1 := [some (.ref L), some (.ref h.length), none, none, none, none, none, none, none, none, none, none]) (h1 := h ++ [.lst []]) (set_s (lst_e nil_e (by decide)))]
    rw [seq_n (ρ1 := envS (.ref L) h.length s0 none none none none none none) (h1 := h ++ [.lst []]) (by
      rw [hs0]
      exact asg_s (tup_e (cons_e c_e (cons_e (x0 _) (cons_e c_e (cons_e (x0 _) nil_e)))) (by show 4 ≤ 1000000; decide)) rfl)]
    have hi := it_el (e := mVar 0) (ρ := envS (.ref L) h.length s0 none none none none none none) (h := h ++ [.lst []]) (h1 := h ++ [.lst []]) (L := L) (us := rowsU (r :: rs)) (var_e rfl) (app_at _ hL)
    have e1' : forC (fun h' => h'[L]? = some (.lst (rowsU (r :: rs)))) gPR bodyP (eItems 0 (rowsU (r :: rs))) (envS (.ref L) h.length s0 none none none none none none) (h ++ [.lst []]) = some (.nx (envS (.ref L) h.length s1 p6 p7 p8 p9 p10 p11) (h ++ [.lst (rowsU s1.done)])) := by
      have z : rowsU s0.done = [] := by rw [hs0]; rfl
      rw [z] at e1
      exact e1
    rw [seq_n (for_e hi e1')]
    have hD : (h ++ [Cell.lst (rowsU s1.done)])[h.length]? = some (.lst (rowsU s1.done)) := by simp
    have ea : mDrop (mBM kList fAppend (mVar 1) (mCons (mTup (mCons (mVar 2) (mCons (mVar 3) (mCons (mC (.bl true)) mNil)))) mNil)) (envS (.ref L) h.length s1 p6 p7 p8 p9 p10 p11) (h ++ [.lst (rowsU s1.done)]) = some (.nx (envS (.ref L) h.length s1 p6 p7 p8 p9 p10 p11) (h ++ [.lst (rowsU (RM.short (r :: rs)))])) := by
      refine drop_s (w := .non) ((app_l (var_e rfl) (tup_e (cons_e (var_e rfl) (cons_e (var_e rfl) (cons_e c_e nil_e))) (by show 3 ≤ 1000000; decide)) hD (by show _ < 1000000; simp [rowsU] at hl ⊢; simp at hlen; omega) (klist hD)).trans ?_)
      rw [set_end rfl, hsh]
      simp [rowsU, rowU]
    rw [seq_n ea]
    refine ret_s (cb_e (cons_e (var_e rfl) nil_e) ?_)
    unfold fTuple
    simp [rd]
end K06

set_option maxHeartbeats 4000000
/-! the program's check_rows, over rows with any scalars for start and value -/
namespace K06
open PySem L2 ML
structure R3 where
  s : U
  v : U
  g : Bool
def R3.u (r : R3) : U := .tup [r.s, r.v, .bl r.g]
def Sc : U → Prop
  | .non => True
  | .bl _ => True
  | .int _ => True
  | _ => False
def isI : U → Bool
  | .int _ => true
  | _ => false
def iv : U → Int
  | .int i => i
  | _ => 0
def R3.Ok (r : R3) : Prop := Sc r.s ∧ Sc r.v
def R3.row (r : R3) : RM.Row := (iv r.s, iv r.v, r.g)
def ofRow (r : RM.Row) : R3 := ⟨.int r.1, .int r.2.1, r.2.2⟩
theorem ofRow_u (r : RM.Row) : (ofRow r).u = rowU r := rfl
/-- may stand at its place -/
def folB (b r : RM.Row) : Bool := decide (b.1 < r.1) && (decide (r.1 - 1 ≤ RM.rv b (r.1 - 1)) && decide (RM.rv b (r.1 - 1) ≤ r.2.1))
def headB (r : R3) (last : Bool) : Bool := (isI r.s && isI r.v && decide (iv r.s ≤ iv r.v)) && (!last || r.g)
def goodB (rs : List R3) (p : Nat) : Bool := match rs[p]? with
  | none => false
  | some r => headB r (decide (p + 1 = rs.length)) && (if p = 0 then decide (iv r.s = 0) else match rs[p - 1]? with
    | some b => folB b.row r.row
    | none => false)
theorem isint (u : U) (hu : Sc u) (h : Hm) : m_is_integer [u] h = some (.ok (.bl (isI u)) h) := by
  unfold m_is_integer mfun b_is_integer
  cases u with
  | tup ws => simp [Sc] at hu
  | ref i => simp [Sc] at hu
  | str s => simp [Sc] at hu
  | _ => simp [ML.mSeq, ML.mSet, ML.mIf, ML.mRet, ML.mVar, ML.mC, ML.mOp, ML.mCB, ML.mCons, ML.mNil, ML.mB, ML.toB, ML.mLst, ML.mTup, ML.mSkip, ML.mSetIx, ML.mTAnd, ML.mTOr, ML.mTNot, ML.mAnd, ML.mOr, ML.mNot, ML.mIfE, ML.mIsN, ML.mBM, ML.mChain, ML.bndS, ML.mRetN, ML.mDrop, ML.mNeg, mIsi, tyK, tabInt, tabBool, isI]
theorem follows_spec {b : RM.Row} {s v : Int} {g : Bool} (h : Hm) : m_follows [rowU b, .int s, .int v] h = some (.ok (.bl (folB b (s, v, g))) h) := by
  refine fun_r rfl ?_
  unfold b_follows
  show mSeq _ _ [some (rowU b), some (.int s), some (.int v), none] h = _
  by_cases q : s ≤ b.1
  · have : folB b (s, v, g) = false := by unfold folB; rw [decide_eq_false (by simpa using q)]; rfl
    rw [this]
    exact seq_r ((if_t (tst_e (var_e rfl) (op_e (var_e rfl) c_e (row_ix0 _ _)) (le_t q))).trans (ret_s c_e))
  · have q' : b.1 < s := by omega
    rw [seq_n ((if_f (tst_e (var_e rfl) (op_e (var_e rfl) c_e (row_ix0 _ _)) (le_f q))).trans skip_s)]
    rw [seq_n (ρ1 := [some (rowU b), some (.int s), some (.int v), some (.int (RM.rv b (s - 1)))]) (h1 := h) (set_s (cb_e (cons_e (var_e rfl) (cons_e (op_e (var_e rfl) c_e rfl) nil_e)) (row_value_spec _ _ _)))]
    refine ret_s ?_
    unfold folB
    simp only
    rw [decide_eq_true q', Bool.true_and]
    by_cases q1 : s - 1 ≤ RM.rv b (s - 1)
    · by_cases q2 : RM.rv b (s - 1) ≤ v
      · simp [ML.mSeq, ML.mSet, ML.mIf, ML.mRet, ML.mVar, ML.mC, ML.mOp, ML.mCB, ML.mCons, ML.mNil, ML.mB, ML.toB, ML.mLst, ML.mTup, ML.mSkip, ML.mSetIx, ML.mTAnd, ML.mTOr, ML.mTNot, ML.mAnd, ML.mOr, ML.mNot, ML.mIfE, ML.mIsN, ML.mBM, ML.mChain, ML.bndS, ML.mRetN, ML.mDrop, ML.mNeg, q1, q2]
      · simp [ML.mSeq, ML.mSet, ML.mIf, ML.mRet, ML.mVar, ML.mC, ML.mOp, ML.mCB, ML.mCons, ML.mNil, ML.mB, ML.toB, ML.mLst, ML.mTup, ML.mSkip, ML.mSetIx, ML.mTAnd, ML.mTOr, ML.mTNot, ML.mAnd, ML.mOr, ML.mNot, ML.mIfE, ML.mIsN, ML.mBM, ML.mChain, ML.bndS, ML.mRetN, ML.mDrop, ML.mNeg, q1, q2]
    · simp [ML.mSeq, ML.mSet, ML.mIf, ML.mRet, ML.mVar, ML.mC, ML.mOp, ML.mCB, ML.mCons, ML.mNil, ML.mB, ML.toB, ML.mLst, ML.mTup, ML.mSkip, ML.mSetIx, ML.mTAnd, ML.mTOr, ML.mTNot, ML.mAnd, ML.mOr, ML.mNot, ML.mIfE, ML.mIsN, ML.mBM, ML.mChain, ML.bndS, ML.mRetN, ML.mDrop, ML.mNeg, q1]
theorem good_row_spec {R : U} {rs : List R3} {h : Hm} (q : Holds h R (rs.map R3.u)) {p : Nat} (hp : p < rs.length) (hok : ∀ r ∈ rs, r.Ok) (hpre : ∀ r, 0 < p → rs[p - 1]? = some r → isI r.s = true ∧ isI r.v = true) : m_is_good_row [R, .int (p : Int)] h = some (.ok (.bl (goodB rs p)) h) := by
  obtain ⟨r, hr⟩ : ∃ r, rs[p]? = some r := ⟨rs[p], by simp [hp]⟩
  obtain ⟨s, v, g⟩ := r
  have ⟨os, ov⟩ := hok _ (List.mem_of_getElem? hr)
  refine fun_r rfl ?_
  unfold b_is_good_row
  show mSeq _ _ [some R, some (.int (p : Int)), none, none, none] h = _
  have hg : goodB rs p = (headB ⟨s, v, g⟩ (decide (p + 1 = rs.length)) && (if p = 0 then decide (iv s = 0) else match rs[p - 1]? with
    | some b => folB b.row (R3.row ⟨s, v, g⟩)
    | none => false)) := by
    unfold goodB; rw [hr]
  rw [hg]
  rw [seq_n (ρ1 := [some R, some (.int (p : Int)), some s, some v, some (.bl g)]) (h1 := h) (asg_s (op_e (var_e rfl) (var_e rfl) (q.ix (w := R3.u ⟨s, v, g⟩) rfl (by simp [hr]))) rfl)]
  have t1 : mTNot (mB (mCB m_is_integer (mCons (mVar 2) mNil))) [some R, some (.int (p : Int)), some s, some v, some (.bl g)] h = some (.ok (!isI s) h) := not_e (b_e (cb_e (cons_e (var_e rfl) nil_e) (isint s os h)))
  have t2 : mTNot (mB (mCB m_is_integer (mCons (mVar 3) mNil))) [some R, some (.int (p : Int)), some s, some v, some (.bl g)] h = some (.ok (!isI v) h) := not_e (b_e (cb_e (cons_e (var_e rfl) nil_e) (isint v ov h)))
  by_cases z1 : isI s = true
  · rw [z1] at t1
    by_cases z2 : isI v = true
    · rw [z2] at t2
      obtain ⟨s, rfl⟩ : ∃ i, s = .int i := by cases s <;> first | exact ⟨_, rfl⟩ | (simp [isI] at z1; done)
      obtain ⟨v, rfl⟩ : ∃ i, v = .int i := by cases v <;> first | exact ⟨_, rfl⟩ | (simp [isI] at z2; done)
      by_cases z3 : v < s
      · have : headB ⟨.int s, .int v, g⟩ (decide (p + 1 = rs.length)) = false := by
          unfold headB
          have : ¬ s ≤ v := by omega
          simp [isI, iv, this]
        rw [this]
        exact seq_r ((if_t (or_f t1 (or_f t2 (tst_e (var_e rfl) (var_e rfl) (lt_t z3))))).trans (ret_s c_e))
      · have z3' : s ≤ v := by omega
        rw [seq_n ((if_f (or_f t1 (or_f t2 (tst_e (var_e rfl) (var_e rfl) (lt_f z3))))).trans skip_s)]
        have hh : headB ⟨.int s, .int v, g⟩ (decide (p + 1 = rs.length)) = (!decide (p + 1 = rs.length) || g) := by
          unfold headB
          simp [isI, iv, z3']
        rw [hh]
        have hlen := q.len
        rw [List.length_map] at hlen
        have el : mOp oSub (mCB fLen (mCons (mVar 0) mNil)) (mC (.int 1)) [some R, some (.int (p : Int)), some (.int s), some (.int v), some (.bl g)] h = some (.ok (.int ((rs.length : Int) - 1)) h) := op_e (cb_e (cons_e (var_e rfl) nil_e) hlen) c_e rfl
        have rest : mSeq (mIf (mB (mOp (oEq 3) (mVar 1) (mC (.int 0)))) (mRet (mOp (oEq 3) (mVar 2) (mC (.int 0)))) mSkip) (mRet (mCB m_follows (mCons (mOp oIx (mVar 0) (mOp oSub (mVar 1) (mC (.int 1)))) (mCons (mVar 2) (mCons (mVar 3) mNil))))) [some R, some (.int (p : Int)), some (.int s), some (.int v), some (.bl g)] h =
            some (.rt (.bl (if p = 0 then decide (iv (.int s) = 0) else match rs[p - 1]? with | some b => folB b.row (R3.row ⟨.int s, .int v, g⟩) | none => false)) h) := by
          by_cases p0 : p = 0
          · rw [if_pos p0]
            exact seq_r ((if_t (tst_e (var_e rfl) c_e (eq_t (by omega)))).trans (ret_s (op_e (var_e rfl) c_e ev_eqI)))
          · rw [if_neg p0, seq_n ((if_f (tst_e (var_e rfl) c_e (eq_f (by omega)))).trans skip_s)]
            obtain ⟨b, hb⟩ : ∃ b, rs[p - 1]? = some b := ⟨rs[p - 1]'(by omega), by simp⟩
            rw [hb]
            obtain ⟨i1, i2⟩ := hpre b (by omega) hb
            obtain ⟨bs, bv, bg⟩ := b
            obtain ⟨bs, rfl⟩ : ∃ i, bs = .int i := by cases bs <;> first | exact ⟨_, rfl⟩ | (simp [isI] at i1; done)
            obtain ⟨bv, rfl⟩ : ∃ i, bv = .int i := by cases bv <;> first | exact ⟨_, rfl⟩ | (simp [isI] at i2; done)
            exact ret_s (cb_e (cons_e (op_e (var_e rfl) (op_e (var_e rfl) c_e rfl) (q.ix (k := p - 1) (w := rowU (bs, bv, bg)) (by omega) (by rw [List.getElem?_map, hb]; rfl))) (cons_e (var_e rfl) (cons_e (var_e rfl) nil_e))) (follows_spec h))
        by_cases z4 : p + 1 = rs.length
        · have te : mB (mOp (oEq 3) (mVar 1) (mOp oSub (mCB fLen (mCons (mVar 0) mNil)) (mC (.int 1)))) [some R, some (.int (p : Int)), some (.int s), some (.int v), some (.bl g)] h = some (.ok true h) := tst_e (var_e rfl) el (eq_t (by omega))
          cases g with
          | false =>
            rw [decide_eq_true z4]
            exact seq_r ((if_t (and_t te (not_e (k := false) (b_e (var_e rfl))))).trans (ret_s c_e))
          | true =>
            rw [seq_n ((if_f (and_t te (not_e (k := true) (b_e (var_e rfl))))).trans skip_s), rest]
            simp
        · have te : mB (mOp (oEq 3) (mVar 1) (mOp oSub (mCB fLen (mCons (mVar 0) mNil)) (mC (.int 1)))) [some R, some (.int (p : Int)), some (.int s), some (.int v), some (.bl g)] h = some (.ok false h) := tst_e (var_e rfl) el (eq_f (by omega))
          rw [seq_n ((if_f (and_f te)).trans skip_s), rest, decide_eq_false z4]
          simp
    · have z2 : isI v = false := by simpa using z2
      rw [z2] at t2
      have : headB ⟨s, v, g⟩ (decide (p + 1 = rs.length)) = false := by unfold headB; simp [z2]
      rw [this]
      exact seq_r ((if_t (or_f t1 (or_t t2))).trans (ret_s c_e))
  · have z1 : isI s = false := by simpa using z1
    rw [z1] at t1
    have : headB ⟨s, v, g⟩ (decide (p + 1 = rs.length)) = false := by unfold headB; simp [z1]
    rw [this]
    exact seq_r ((if_t (or_t t1)).trans (ret_s c_e))
/-- the place of the first bad row -/
def badAt (rs : List R3) : Nat → Nat → Option Nat
  | _, 0 => none
  | p, n + 1 => if goodB rs p = true then badAt rs (p + 1) n else some p
theorem good_int {rs : List R3} {p : Nat} {r : R3} (hg : goodB rs p = true) (hr : rs[p]? = some r) : isI r.s = true ∧ isI r.v = true := by
  unfold goodB at hg
  rw [hr] at hg
  simp only [Bool.and_eq_true] at hg
  have := hg.1
  unfold headB at this
  simp only [Bool.and_eq_true] at this
  exact this.1.1
noncomputable abbrev bodyK : MS := (mIf (mTNot (mB (mCB m_is_good_row (mCons (mVar 0) (mCons (mVar 1) mNil)))))
    (mRaise 2 (mk1 ("place" : Str)) (mCons (mVar 1) mNil))
    mSkip)
theorem check_loop {R : U} {rs : List R3} {h : Hm} (q : Holds h R (rs.map R3.u)) (hok : ∀ r ∈ rs, r.Ok) : ∀ (n p : Nat) (o1 : Option U), p + n = rs.length → (∀ r, 0 < p → rs[p - 1]? = some r → isI r.s = true ∧ isI r.v = true) →
    match badAt rs p n with
    | none => ∃ p1, forC (fun _ => True) (gN 1) bodyK (rItems (p : Int) n) [some R, o1] h = some (.nx [some R, p1] h)
    | some b => ∃ ρ, forC (fun _ => True) (gN 1) bodyK (rItems (p : Int) n) [some R, o1] h = some (.ex 2 [("place", .int (b : Int))] ρ h)
  | 0, p, o1, hl, hpre => ⟨o1, for_nil (chk := fun _ => True) trivial⟩
  | n + 1, p, o1, hl, hpre => by
    have e1 := good_row_spec q (p := p) (by omega) hok hpre
    rw [rItems_succ]
    unfold badAt
    by_cases z : goodB rs p = true
    · rw [if_pos z]
      rw [z] at e1
      have et : bodyK [some R, some (.int (p : Int))] h = some (.nx [some R, some (.int (p : Int))] h) := (if_f (not_e (b_e (cb_e (cons_e (var_e rfl) (cons_e (var_e rfl) nil_e)) e1)))).trans skip_s
      have hn : forC (fun _ => True) (gN 1) bodyK (.int (p : Int) :: rItems ((p : Int) + 1) n) [some R, o1] h = forC (fun _ => True) (gN 1) bodyK (rItems ((p + 1 : Nat) : Int) n) [some R, some (.int (p : Int))] h := by
        rw [show ((p + 1 : Nat) : Int) = (p : Int) + 1 by omega]
        exact for_cons (chk := fun _ => True) (g := gN 1) (w := .int (p : Int)) (ρ := [some R, o1]) (ρ1 := [some R, some (.int (p : Int))]) trivial rfl et
      rw [hn]
      exact check_loop q hok n (p + 1) (some (.int (p : Int))) (by omega) (fun r _ hr => good_int z hr)
    · rw [if_neg z]
      have z : goodB rs p = false := by simpa using z
      rw [z] at e1
      refine ⟨[some R, some (.int (p : Int))], ?_⟩
      have et : bodyK [some R, some (.int (p : Int))] h = some (.ex 2 [("place", .int (p : Int))] [some R, some (.int (p : Int))] h) := (if_t (not_e (b_e (cb_e (cons_e (var_e rfl) (cons_e (var_e rfl) nil_e)) e1)))).trans (by
        unfold mRaise
        rw [cons_e (var_e rfl) nil_e]
        simp [mk1])
      unfold forC
      rw [if_pos trivial]
      show (match bodyK [some R, some (.int (p : Int))] h with
        | some (.nx ρ2 h2) => _
        | some (.ct ρ2 h2) => _
        | some (.bk ρ2 h2) => _
        | r => r) = _
      rw [et]
theorem check_spec {R : U} {rs : List R3} {h : Hm} (q : Holds h R (rs.map R3.u)) (hok : ∀ r ∈ rs, r.Ok) (hl : rs.length ≤ 100000) (hne : rs ≠ []) :
    m_check_rows [R] h = match badAt rs 0 rs.length with
      | none => some (.ok R h)
      | some b => some (.ex 2 [("place", .int (b : Int))] h) := by
  have hlen := q.len
  rw [List.length_map] at hlen
  have h0 : 0 < rs.length := List.length_pos_iff.mpr hne
  have e0 : mIf (mB (mOp (oEq 3) (mCB fLen (mCons (mVar 0) mNil)) (mC (.int 0)))) (mRaise 2 (mk1 ("place" : Str)) (mCons (mC (.int 0)) mNil)) mSkip [some R, none] h = some (.nx [some R, none] h) :=
    (if_f (tst_e (cb_e (cons_e (var_e rfl) nil_e) hlen) c_e (eq_f (by omega)))).trans skip_s
  have hi := it_r1 (e := mCB fLen (mCons (mVar 0) mNil)) (ρ := [some R, none]) (h := h) (cb_e (cons_e (var_e rfl) nil_e) hlen) (by omega) (by omega)
  rw [Int.toNat_natCast] at hi
  have key := check_loop q hok rs.length 0 none (by omega) (fun r h _ => absurd h (by omega))
  cases e : badAt rs 0 rs.length with
  | none =>
    rw [e] at key
    obtain ⟨p1, key⟩ := key
    refine fun_r rfl ?_
    unfold b_check_rows
    exact (seq_n e0).trans ((seq_n (for_e hi key)).trans (ret_s (var_e rfl)))
  | some b =>
    rw [e] at key
    obtain ⟨ρ, key⟩ := key
    refine fun_x rfl (ρ1 := ρ) ?_
    unfold b_check_rows
    exact (seq_n e0).trans (seq_x (for_e hi key))
theorem check_empty {R : U} {h : Hm} (q : Holds h R []) : m_check_rows [R] h = some (.ex 2 [("place", .int 0)] h) := by
  refine fun_x rfl (ρ1 := [some R, none]) ?_
  unfold b_check_rows
  refine seq_x ((if_t (tst_e (cb_e (cons_e (var_e rfl) nil_e) q.len) c_e (eq_t rfl))).trans ?_)
  unfold mRaise
  rw [cons_e c_e nil_e]
  simp [mk1]
end K06

set_option maxHeartbeats 4000000
/-! Rising(..) -/
namespace K06
open PySem L2 ML
/-- an object made of rows -/
def mapC (rs : List RM.Row) : Cell := .ins 3 [("rows", .tup (rowsU rs))]
theorem list_of {h : Hm} {R : U} {us : List U} (q : Holds h R us) : fList [R] h = some (.ok (.ref h.length) (h ++ [.lst us])) := by
  unfold fList
  rcases q with ⟨L, rfl, e⟩ | rfl
  · simp [e]
  · simp
theorem get_mid {h e : Hm} {x : Cell} : (h ++ [x] ++ e)[h.length]? = some x := by
  rw [List.append_assoc, List.getElem?_append_right (Nat.le_refl _)]; simp
theorem set_mid {h e : Hm} {x y : Cell} : (h ++ [x] ++ e).set h.length y = h ++ [y] ++ e := by
  rw [List.append_assoc, List.set_append_right _ _ (Nat.le_refl _)]
  simp
theorem rowsR (rs : List RM.Row) : (rs.map ofRow).map R3.u = rowsU rs := by
  rw [List.map_map]
  rfl
theorem init_ok {h : Hm} {R : U} {rs : List RM.Row} (q : Holds (h ++ [.ins 3 []]) R (rowsU rs)) (hb : Bd rs) (hn : rs ≠ []) (hl : rs.length ≤ 100000) (hg : badAt (rs.map ofRow) 0 rs.length = none) :
    ∃ E, m_Rising___init__ [.ref h.length, R] (h ++ [.ins 3 []]) = some (.ok .non (h ++ [mapC (RM.short rs)] ++ E)) := by
  obtain ⟨H1, hH1⟩ : ∃ H1, H1 = h ++ [Cell.ins 3 []] ++ [.lst (rowsU rs)] := ⟨_, rfl⟩
  have e1 := list_of q
  have q2 : Holds H1 (.ref (h ++ [Cell.ins 3 []] : Hm).length) ((rs.map ofRow).map R3.u) := .inl ⟨_, rfl, by rw [rowsR, hH1]; exact lst_at (by simp)⟩
  have e2 := check_spec q2 (fun r hr => by
    obtain ⟨x, _, rfl⟩ := List.mem_map.mp hr
    exact ⟨trivial, trivial⟩) (by simpa using hl) (by simpa using hn)
  rw [List.length_map, hg] at e2
  obtain ⟨E, e3⟩ := shortest_spec (L := (h ++ [Cell.ins 3 []] : Hm).length) (h := H1) (rs := rs) (by rw [hH1]; simp) hb hn hl
  refine ⟨[.lst (rowsU rs)] ++ E, fun_n (ρ1 := [some (.ref h.length), some R]) rfl ?_⟩
  unfold b_Rising___init__
  show mSetAt _ _ _ _ [some (.ref h.length), some R] (h ++ [.ins 3 []]) = _
  have ee : mCB m_shortest (mCons (mCB m_check_rows (mCons (mCB fList (mCons (mVar 1) mNil)) mNil)) mNil) [some (.ref h.length), some R] (h ++ [.ins 3 []]) = some (.ok (.tup (rowsU (RM.short rs))) (h ++ [.ins 3 []] ++ ([.lst (rowsU rs)] ++ E))) := by
    rw [← List.append_assoc, ← hH1]
    exact cb_e (cons_e (cb_e (cons_e (cb_e (cons_e (var_e rfl) nil_e) (by rw [hH1]; exact e1)) nil_e) e2) nil_e) e3
  unfold mSetAt
  rw [ee]
  simp only [bndS_ok]
  rw [show mVar 0 [some (.ref h.length), some R] (h ++ [.ins 3 []] ++ ([.lst (rowsU rs)] ++ E)) = some (.ok (.ref h.length) (h ++ [.ins 3 []] ++ ([.lst (rowsU rs)] ++ E))) from rfl]
  simp only [bndS_ok, get_mid]
  rw [if_pos (by rfl), set_mid]
  rfl
theorem init_bad {h : Hm} {R : U} {rs : List R3} (q : Holds (h ++ [.ins 3 []]) R (rs.map R3.u)) (hok : ∀ r ∈ rs, r.Ok) (hl : rs.length ≤ 100000) {b : Nat} (hg : (rs = [] ∧ b = 0) ∨ badAt rs 0 rs.length = some b) :
    ∃ E, m_Rising___init__ [.ref h.length, R] (h ++ [.ins 3 []]) = some (.ex 2 [("place", .int (b : Int))] (h ++ E)) := by
  obtain ⟨H1, hH1⟩ : ∃ H1, H1 = h ++ [Cell.ins 3 []] ++ [.lst (rs.map R3.u)] := ⟨_, rfl⟩
  have e1 := list_of q
  have q2 : Holds H1 (.ref (h ++ [Cell.ins 3 []] : Hm).length) (rs.map R3.u) := .inl ⟨_, rfl, by rw [hH1]; exact lst_at (by simp)⟩
  have e2 : m_check_rows [.ref (h ++ [Cell.ins 3 []] : Hm).length] H1 = some (.ex 2 [("place", .int (b : Int))] H1) := by
    by_cases hn : rs = []
    · subst hn
      have : b = 0 := by
        rcases hg with ⟨_, q⟩ | q
        · exact q
        · simp [badAt] at q
      subst this
      exact check_empty q2
    · have hg : badAt rs 0 rs.length = some b := by
        rcases hg with ⟨q, _⟩ | q
        · exact absurd q hn
        · exact q
      have := check_spec q2 hok hl hn
      rw [hg] at this
      exact this
  refine ⟨[.ins 3 []] ++ [.lst (rs.map R3.u)], fun_x (ρ1 := [some (.ref h.length), some R]) rfl ?_⟩
  unfold b_Rising___init__
  show mSetAt _ _ _ _ [some (.ref h.length), some R] (h ++ [.ins 3 []]) = _
  have ee : mCB m_shortest (mCons (mCB m_check_rows (mCons (mCB fList (mCons (mVar 1) mNil)) mNil)) mNil) [some (.ref h.length), some R] (h ++ [.ins 3 []]) = some (.ex 2 [("place", .int (b : Int))] H1) := by
    have z : mCB m_check_rows (mCons (mCB fList (mCons (mVar 1) mNil)) mNil) [some (.ref h.length), some R] (h ++ [.ins 3 []]) = some (.ex 2 [("place", .int (b : Int))] H1) := cb_e (cons_e (cb_e (cons_e (var_e rfl) nil_e) (by rw [hH1]; exact e1)) nil_e) e2
    exact cb_x (cons_x z)
  unfold mSetAt
  rw [ee, hH1, ← List.append_assoc]
  rfl
theorem make_ok {es : MA} {ρ : Ev} {h h1 : Hm} {R : U} {rs : List RM.Row} (he : es ρ h = some (.ok [R] h1)) (q : Holds h1 R (rowsU rs)) (hb : Bd rs) (hn : rs ≠ []) (hl : rs.length ≤ 100000) (hg : badAt (rs.map ofRow) 0 rs.length = none) :
    ∃ E, mMake 3 m_Rising___init__ es ρ h = some (.ok (.ref h1.length) (h1 ++ [mapC (RM.short rs)] ++ E)) := by
  obtain ⟨E, e⟩ := init_ok (h := h1) (R := R) (rs := rs) (by
    rcases q with ⟨L, rfl, e⟩ | rfl
    · refine .inl ⟨L, rfl, ?_⟩
      rw [← e]
      unfold rd
      have : L < h1.length := by
        unfold rd at e
        by_cases z : L < h1.length
        · exact z
        · rw [List.getElem?_eq_none (by omega)] at e; cases e
      rw [List.getElem?_append_left this]
    · exact .inr rfl) hb hn hl hg
  refine ⟨E, ?_⟩
  unfold mMake
  rw [he]
  simp only [bnd_ok]
  rw [e]
  rfl
theorem make_bad {es : MA} {ρ : Ev} {h h1 : Hm} {R : U} {rs : List R3} (he : es ρ h = some (.ok [R] h1)) (q : Holds h1 R (rs.map R3.u)) (hok : ∀ r ∈ rs, r.Ok) (hl : rs.length ≤ 100000) {b : Nat} (hg : (rs = [] ∧ b = 0) ∨ badAt rs 0 rs.length = some b) :
    ∃ E, mMake 3 m_Rising___init__ es ρ h = some (.ex 2 [("place", .int (b : Int))] (h1 ++ E)) := by
  obtain ⟨E, e⟩ := init_bad (h := h1) (R := R) (rs := rs) (by
    rcases q with ⟨L, rfl, e⟩ | rfl
    · refine .inl ⟨L, rfl, ?_⟩
      rw [← e]
      unfold rd
      have : L < h1.length := by
        unfold rd at e
        by_cases z : L < h1.length
        · exact z
        · rw [List.getElem?_eq_none (by omega)] at e; cases e
      rw [List.getElem?_append_left this]
    · exact .inr rfl) hok hl hg
  refine ⟨E, ?_⟩
  unfold mMake
  rw [he]
  simp only [bnd_ok]
  rw [e]
  rfl
/-- right rows of numbers -/
theorem badAt_none : ∀ {rs : List R3} {n p : Nat}, (∀ k, p ≤ k → k < p + n → goodB rs k = true) → badAt rs p n = none
  | rs, 0, p, h => rfl
  | rs, n + 1, p, h => by
    unfold badAt
    rw [if_pos (h p (by omega) (by omega))]
    exact badAt_none fun k h1 h2 => h k (by omega) (by omega)
theorem badAt_some : ∀ {rs : List R3} {n p b : Nat}, (∀ k, p ≤ k → k < b → goodB rs k = true) → goodB rs b = false → p ≤ b → b < p + n → badAt rs p n = some b
  | rs, 0, p, b, h, hb, h1, h2 => by omega
  | rs, n + 1, p, b, h, hb, h1, h2 => by
    unfold badAt
    by_cases z : p = b
    · subst z
      rw [if_neg (by simp [hb])]
    · rw [if_pos (h p (by omega) (by omega))]
      exact badAt_some (fun k h1 h2 => h k (by omega) h2) hb (by omega) (by omega)
end K06

set_option maxHeartbeats 4000000
/-! the law's values and rows -/
namespace K06
open PySem L2 ML
structure Ris (vs : List Int) : Prop where
  lo : ∀ (i : Nat) (v : Int), vs[i]? = some v → (i : Int) ≤ v
  hi : ∀ (i : Nat) (v : Int), vs[i]? = some v → v ≤ 5 + 9 * (i : Int)
  up : ∀ (i : Nat) (a b : Int), vs[i]? = some a → vs[i + 1]? = some b → a ≤ b
abbrev deltas : List U := [.int 0, .int 0, .int 1, .int 1, .int 1, .int 2, .int 3, .int 9]
noncomputable abbrev bodyV : MS := (mSeq (mSet 3 (mCB fMax2 (mCons (mCB fIntA2 (mCons (mVar 3) mNil)) (mCons (mVar 5) mNil))))
    (mSeq (mDrop (mBM kList fAppend (mVar 4) (mCons (mVar 3) mNil)))
    (mSet 3 (mOp oAdd (mVar 3) (mOp oIx (mLst (mCons (mC (.int 0)) (mCons (mC (.int 0)) (mCons (mC (.int 1)) (mCons (mC (.int 1)) (mCons (mC (.int 1)) (mCons (mC (.int 2)) (mCons (mC (.int 3)) (mCons (mC (.int 9)) mNil))))))))) (mCB m__law_draw (mCons (mVar 0) (mCons (mVar 1) (mCons (mC (.int 8)) mNil)))))))))
theorem delta_mem {u : U} (h : u ∈ deltas) : ∃ d : Int, u = .int d ∧ 0 ≤ d ∧ d ≤ 9 := by
  simp only [deltas, List.mem_cons, List.not_mem_nil, or_false] at h
  rcases h with rfl | rfl | rfl | rfl | rfl | rfl | rfl | rfl <;> exact ⟨_, rfl, by decide, by decide⟩
/-- the state stands, V a list of its own -/
structure GL (ns : List Int) (h : Hm) (V : Nat) (us : List U) : Prop where
  g : Good ns h
  v0 : V ≠ 0
  v1 : V ≠ 1
  at_ : h[V]? = some (.lst us)
theorem GL.app {ns : List Int} {h : Hm} {V : Nat} {us : List U} (q : GL ns h V us) (e : Hm) : GL ns (h ++ e) V us := ⟨q.g.app e, q.v0, q.v1, app_at e q.at_⟩
theorem GL.set {ns : List Int} {h : Hm} {V : Nat} {us : List U} (q : GL ns h V us) (us' : List U) : GL ns (h.set V (.lst us')) V us' :=
  ⟨q.g.at_ (by rw [List.getElem?_set_ne q.v0]) (by rw [List.getElem?_set_ne q.v1]), q.v0, q.v1, by rw [List.getElem?_set_self (List.getElem?_eq_some_iff.mp q.at_).1]⟩
/-- all other cells stand -/
def Same (X : Nat → Prop) (h h' : Hm) : Prop := h.length ≤ h'.length ∧ ∀ i, i < h.length → i ≠ 1 → ¬ X i → h'[i]? = h[i]?
theorem Same.refl {X : Nat → Prop} {h : Hm} : Same X h h := ⟨Nat.le_refl _, fun _ _ _ _ => rfl⟩
theorem Same.trans {X : Nat → Prop} {h h1 h2 : Hm} (a : Same X h h1) (b : Same X h1 h2) : Same X h h2 := ⟨Nat.le_trans a.1 b.1, fun i hi h1 hx => by rw [b.2 i (Nat.lt_of_lt_of_le hi a.1) h1 hx, a.2 i hi h1 hx]⟩
theorem Same.app {X : Nat → Prop} {h : Hm} (e : Hm) : Same X h (h ++ e) := ⟨by simp, fun i hi _ _ => by rw [List.getElem?_append_left hi]⟩
theorem Same.draw {X : Nat → Prop} {h h' : Hm} (k : ∀ i, i ≠ 1 → h'[i]? = h[i]?) (l : h'.length = h.length) : Same X h h' := ⟨by omega, fun i _ h1 _ => k i h1⟩
theorem Same.set {X : Nat → Prop} {h : Hm} {V : Nat} {c : Cell} (hx : X V) : Same X h (h.set V c) := ⟨by simp, fun i _ _ hn => by rw [List.getElem?_set_ne (by rintro rfl; exact hn hx)]⟩
theorem GL.draw {ns : List Int} {h h' : Hm} {V : Nat} {us : List U} (q : GL ns h V us) (g : Good ns h') (k : ∀ i, i ≠ 1 → h'[i]? = h[i]?) : GL ns h' V us := ⟨g, q.v0, q.v1, by rw [k V q.v1]; exact q.at_⟩
theorem max2 {a b : Int} {h : Hm} : fMax2 [.int a, .int b] h = some (.ok (.int (if b > a then b else a)) h) := by
  unfold fMax2
  simp
theorem draw_e {ns : List Int} {ρ : Ev} {h : Hm} (g : Good ns h) (h0 : ρ[0]? = some (some (.ref 0))) (h1 : ρ[1]? = some (some (.ref 1))) (lim : Int) (l0 : 0 < lim) (l1 : lim < 1073741824) :
    ∃ (r : Int) (h' : Hm), 0 ≤ r ∧ r < lim ∧ Good ns h' ∧ (∀ i, i ≠ 1 → h'[i]? = h[i]?) ∧ h'.length = h.length ∧ mCB m__law_draw (mCons (mVar 0) (mCons (mVar 1) (mCons (mC (.int lim)) mNil))) ρ h = some (.ok (.int r) h') := by
  obtain ⟨r, h', r0, r1, g', k, l, e⟩ := drawC g lim l0 l1
  exact ⟨r, h', r0, r1, g', k, l, cb_e (cons_e (var_e h0) (cons_e (var_e h1) (cons_e c_e nil_e))) e⟩
theorem value_turn {ns : List Int} {h : Hm} {V : Nat} {us : List U} (q : GL ns h V us) (hl : us.length < 1000) (m v : Int) (o2 : Option U) :
    ∃ (d : Int) (h' : Hm), 0 ≤ d ∧ d ≤ 9 ∧ GL ns h' V (us ++ [.int (if m > v then m else v)]) ∧ Same (· = V) h h' ∧
      bodyV [some (.ref 0), some (.ref 1), o2, some (.int v), some (.ref V), some (.int m)] h = some (.nx [some (.ref 0), some (.ref 1), o2, some (.int ((if m > v then m else v) + d)), some (.ref V), some (.int m)] h') := by
  obtain ⟨x, hx⟩ : ∃ x, x = if m > v then m else v := ⟨_, rfl⟩
  rw [← hx]
  have q1 := q.set (us ++ [.int x])
  obtain ⟨h1, hh1⟩ : ∃ h1, h1 = h.set V (.lst (us ++ [.int x])) := ⟨_, rfl⟩
  rw [← hh1] at q1
  have q2 := q1.app [.lst deltas]
  obtain ⟨r, h3, r0, r1, g3, k3, l3, e3⟩ := draw_e q2.g (ρ := [some (.ref 0), some (.ref 1), o2, some (.int x), some (.ref V), some (.int m)]) rfl rfl 8 (by decide) (by decide)
  have q3 := q2.draw g3 k3
  have hlen := q1.g.len
  have hd : h3[h1.length]? = some (.lst deltas) := by rw [k3 _ (by omega)]; simp
  obtain ⟨u, hu, eu⟩ := atI_in (xs := deltas) (i := r) r0 (by simpa using r1)
  obtain ⟨d, rfl, d0, d1⟩ := delta_mem hu
  refine ⟨d, h3, d0, d1, q3, ((Same.set (X := fun x => x = V) (V := V) rfl).trans (by rw [← hh1]; exact (Same.app _).trans (Same.draw k3 l3))), ?_⟩
  unfold bodyV
  rw [seq_n (ρ1 := [some (.ref 0), some (.ref 1), o2, some (.int x), some (.ref V), some (.int m)]) (h1 := h) (by
    rw [hx]; exact set_s (cb_e (cons_e (cb_e (cons_e (var_e rfl) nil_e) ev_int) (cons_e (var_e rfl) nil_e)) max2))]
  rw [seq_n (ρ1 := [some (.ref 0), some (.ref 1), o2, some (.int x), some (.ref V), some (.int m)]) (h1 := h1) (drop_s (w := .non) (by
    rw [hh1]; exact app_l (var_e rfl) (var_e rfl) q.at_ (by show _ < 1000000; omega) (klist q.at_)))]
  exact set_s (op_e (var_e rfl) (op_e (lst_e (cons_e c_e (cons_e c_e (cons_e c_e (cons_e c_e (cons_e c_e (cons_e c_e (cons_e c_e (cons_e c_e nil_e)))))))) (by decide)) e3 (ev_ix (lst_at hd) eu)) ev_addI)
theorem getD_last {vs : List Int} {i : Nat} {a x : Int} (e : (vs ++ [x])[i]? = some a) : vs[i]? = some a ∨ (i = vs.length ∧ a = x) := by
  by_cases hi : i < vs.length
  · rw [List.getElem?_append_left hi] at e; exact .inl e
  · have h1 := (List.getElem?_eq_some_iff.mp e).1
    have : i = vs.length := by simp at h1; omega
    subst this
    simp at e
    exact .inr ⟨rfl, e.symm⟩
theorem Ris.snoc {vs : List Int} {x : Int} (r : Ris vs) (h1 : (vs.length : Int) ≤ x) (h2 : x ≤ 5 + 9 * (vs.length : Int)) (h3 : ∀ a, vs[vs.length - 1]? = some a → vs ≠ [] → a ≤ x) : Ris (vs ++ [x]) := by
  refine ⟨fun i v e => ?_, fun i v e => ?_, fun i a b e1 e2 => ?_⟩
  · rcases getD_last e with q | ⟨rfl, rfl⟩
    · exact r.lo i v q
    · exact h1
  · rcases getD_last e with q | ⟨rfl, rfl⟩
    · exact r.hi i v q
    · exact h2
  · rcases getD_last e2 with q | ⟨q, rfl⟩
    · have hi := (List.getElem?_eq_some_iff.mp q).1
      rcases getD_last e1 with q1 | ⟨q1, _⟩
      · exact r.up i a b q1 q
      · omega
    · rcases getD_last e1 with q1 | ⟨q1, _⟩
      · refine h3 a (by rw [← q]; simpa using q1) ?_
        rintro rfl
        simp at q1
      · omega
theorem values_loop {ns : List Int} {V : Nat} {o2 : Option U} : ∀ (n : Nat) (vs : List Int) (v : Int) (o5 : Option U) (h : Hm), GL ns h V (vs.map U.int) → Ris vs → v ≤ 5 + 9 * (vs.length : Int) → (∀ a, vs[vs.length - 1]? = some a → vs ≠ [] → a ≤ v) → vs.length + n ≤ 100 →
    ∃ (ws : List Int) (v' : Int) (p5 : Option U) (h' : Hm), ws.length = vs.length + n ∧ Ris ws ∧ GL ns h' V (ws.map U.int) ∧ Same (· = V) h h' ∧
      forC (fun _ => True) (gN 5) bodyV (rItems (vs.length : Int) n) [some (.ref 0), some (.ref 1), o2, some (.int v), some (.ref V), o5] h = some (.nx [some (.ref 0), some (.ref 1), o2, some (.int v'), some (.ref V), p5] h')
  | 0, vs, v, o5, h, q, r, hv, hu, hl => ⟨vs, v, o5, h, rfl, r, q, Same.refl, for_nil (chk := fun _ => True) trivial⟩
  | n + 1, vs, v, o5, h, q, r, hv, hu, hl => by
    obtain ⟨d, h1, d0, d1, q1, s1, e1⟩ := value_turn q (by simp; omega) (vs.length : Int) v o2
    obtain ⟨x, hx⟩ : ∃ x, x = if (vs.length : Int) > v then (vs.length : Int) else v := ⟨_, rfl⟩
    rw [← hx] at q1 e1
    have x1 : (vs.length : Int) ≤ x := by rw [hx]; split <;> omega
    have x2 : x ≤ 5 + 9 * (vs.length : Int) := by rw [hx]; split <;> omega
    have x3 : v ≤ x := by rw [hx]; split <;> omega
    have r1 := r.snoc x1 x2 (fun a ea hn => Int.le_trans (hu a ea hn) x3)
    obtain ⟨ws, v', p5, h', a1, a2, a3, a4, a5⟩ := values_loop (V := V) (o2 := o2) n (vs ++ [x]) (x + d) (some (.int (vs.length : Int))) h1 (by simpa using q1) r1 (by simp; omega) (fun a ea _ => by
      have : a = x := by simpa using ea.symm
      omega) (by simp; omega)
    refine ⟨ws, v', p5, h', by simp at a1; omega, a2, a3, s1.trans a4, ?_⟩
    have hlen : ((vs ++ [x]).length : Int) = (vs.length : Int) + 1 := by simp
    rw [hlen] at a5
    rw [rItems_succ]
    exact (for_cons (chk := fun _ => True) (g := gN 5) (w := .int (vs.length : Int)) (ρ := [some (.ref 0), some (.ref 1), o2, some (.int v), some (.ref V), o5]) (ρ1 := [some (.ref 0), some (.ref 1), o2, some (.int v), some (.ref V), some (.int (vs.length : Int))]) trivial rfl e1).trans a5
theorem Ris.nil : Ris [] := ⟨fun i v e => by simp at e, fun i v e => by simp at e, fun i a b e => by simp at e⟩
theorem values_spec {ns : List Int} {h : Hm} (g : Good ns h) (most : Nat) (hm : 1 ≤ most) (hm2 : most ≤ 50) : ∃ (vs : List Int) (V : Nat) (h' : Hm), vs ≠ [] ∧ vs.length ≤ most ∧ Ris vs ∧ h.length ≤ V ∧ GL ns h' V (vs.map U.int) ∧ Same (fun _ => False) h h' ∧ m__law_values [.ref 0, .ref 1, .int (most : Int)] h = some (.ok (.ref V) h') := by
  have hg := g.len
  obtain ⟨v, h1, v0, v1, g1, k1, l1, e1⟩ := draw_e g (ρ := [some (.ref 0), some (.ref 1), some (.int (most : Int)), none, none, none]) rfl rfl 6 (by decide) (by decide)
  have hq : GL ns (h1 ++ [.lst []]) h1.length [] := ⟨g1.app _, by omega, by omega, by simp⟩
  obtain ⟨n, h3, n0, n1, g3, k3, l3, e3⟩ := drawC hq.g (most : Int) (by omega) (by omega)
  have q3 := hq.draw g3 k3
  obtain ⟨ws, v', p5, h', a1, a2, a3, a4, a5⟩ := values_loop (ns := ns) (V := h1.length) (o2 := some (.int (most : Int))) (1 + n).toNat [] v none h3 q3 Ris.nil (by simp; omega) (by simp) (by simp; omega)
  refine ⟨ws, h1.length, h', ?_, by simp at a1; omega, a2, by omega, a3, ?_, ?_⟩
  · rintro rfl
    simp at a1
    omega
  · refine ⟨?_, fun i hi i1 _ => ?_⟩
    · have := a4.1
      simp at l3
      omega
    · rw [a4.2 i (by rw [l3]; simp; omega) i1 (by omega), k3 i i1, List.getElem?_append_left (by omega), k1 i i1]
  · refine fun_r rfl ?_
    unfold b__law_values
    show mSeq _ _ [some (.ref 0), some (.ref 1), some (.int (most : Int)), none, none, none] h = _
    rw [seq_n (ρ1 := [some (.ref 0), some (.ref 1), some (.int (most : Int)), some (.int v), none, none]) (h1 := h1) (set_s e1)]
    rw [seq_n (ρ1 := [some (.ref 0), some (.ref 1), some (.int (most : Int)), some (.int v), some (.ref h1.length), none]) (h1 := h1 ++ [.lst []]) (set_s (lst_e nil_e (by decide)))]
    have hi : iR1 (mOp oAdd (mC (.int 1)) (mCB m__law_draw (mCons (mVar 0) (mCons (mVar 1) (mCons (mVar 2) mNil))))) [some (.ref 0), some (.ref 1), some (.int (most : Int)), some (.int v), some (.ref h1.length), none] (h1 ++ [.lst []]) = some (.ok (rItems 0 (1 + n).toNat, fun _ => True) h3) :=
      it_r1 (op_e c_e (cb_e (cons_e (var_e rfl) (cons_e (var_e rfl) (cons_e (var_e rfl) nil_e))) e3) ev_addI) (by omega) (by omega)
    rw [seq_n (for_e hi a5)]
    exact ret_s (var_e rfl)
end K06

set_option maxHeartbeats 4000000
/-! the law's rows of values -/
namespace K06
open PySem L2 ML
/-- rows that give the values of the minutes below m -/
inductive Pre (vs : List Int) : List RM.Row → Nat → Prop
  | nil : Pre vs [] 0
  | first {v : Int} (g : Bool) : vs[0]? = some v → Pre vs [(0, v, g)] 1
  | stay {rs : List RM.Row} {b : RM.Row} {m : Nat} {v : Int} : Pre vs (rs ++ [b]) m → vs[m]? = some v → RM.rv b (m : Int) = v → Pre vs (rs ++ [b]) (m + 1)
  | next {rs : List RM.Row} {b : RM.Row} {m : Nat} {v : Int} (g : Bool) : Pre vs (rs ++ [b]) m → vs[m]? = some v → Pre vs (rs ++ [b] ++ [((m : Int), v, g)]) (m + 1)
/-- good but for the last row's growing -/
def goodP (rs : List R3) (p : Nat) : Bool := match rs[p]? with
  | none => false
  | some r => headB r false && (if p = 0 then decide (iv r.s = 0) else match rs[p - 1]? with
    | some b => folB b.row r.row
    | none => false)
theorem goodP_app {rs x : List R3} {p : Nat} (hp : p < rs.length) : goodP (rs ++ x) p = goodP rs p := by
  unfold goodP
  rw [List.getElem?_append_left hp, List.getElem?_append_left (by omega)]
theorem goodB_app {rs x : List R3} {p : Nat} (hp : p < rs.length) (hx : x ≠ []) : goodB (rs ++ x) p = goodP rs p := by
  have h0 := List.length_pos_iff.mpr hx
  rw [← goodP_app (x := x) hp]
  unfold goodB goodP
  have : decide (p + 1 = (rs ++ x).length) = false := by rw [decide_eq_false]; simp; omega
  rw [this]
  all_goals rfl
theorem goodB_last {rs : List R3} {p : Nat} {r : R3} (hr : rs[p]? = some r) (hg : r.g = true) : goodB rs p = goodP rs p := by
  unfold goodB goodP
  rw [hr]
  simp only [headB, hg]
  simp
  all_goals rfl
theorem snoc_cases {α : Type} {rs rs' : List α} {b b' : α} (h : rs ++ [b] = rs' ++ [b']) : rs = rs' ∧ b = b' := by
  have := List.append_inj' h rfl
  exact ⟨this.1, by simpa using this.2⟩
structure PreF (vs : List Int) (rs : List RM.Row) (m : Nat) : Prop where
  emp : rs = [] → m = 0
  good : ∀ p, p < rs.length → goodP (rs.map ofRow) p = true
  bd : ∀ r ∈ rs, 0 ≤ r.1 ∧ r.1 < (m : Int)
  val : ∀ r ∈ rs, ∃ k : Nat, r.1 = (k : Int) ∧ vs[k]? = some r.2.1
  last : ∀ pre b, rs = pre ++ [b] → 1 ≤ m ∧ ∃ v, vs[m - 1]? = some v ∧ RM.rv b ((m : Int) - 1) = v
  len : rs.length ≤ m
theorem goodP_new {rs : List RM.Row} {b : RM.Row} {s v : Int} {g : Bool} (hsv : s ≤ v) (hf : RM.fol b (s, v, g)) : goodP ((rs ++ [b] ++ [(s, v, g)]).map ofRow) (rs ++ [b]).length = true := by
  unfold goodP
  have e1 : ((rs ++ [b] ++ [(s, v, g)]).map ofRow)[(rs ++ [b]).length]? = some (ofRow (s, v, g)) := by simp
  have e2 : ((rs ++ [b] ++ [(s, v, g)]).map ofRow)[(rs ++ [b]).length - 1]? = some (ofRow b) := by
    rw [List.length_append, List.length_singleton, Nat.add_sub_cancel]
    simp
  rw [e1]
  simp only
  rw [if_neg (by simp), e2]
  obtain ⟨f1, f2, f3⟩ := hf
  simp only at f1 f2 f3
  simp [headB, ofRow, isI, iv, hsv, folB, R3.row, f1, f2, f3]
theorem Pre.f {vs : List Int} (r : Ris vs) : ∀ {rs : List RM.Row} {m : Nat}, Pre vs rs m → PreF vs rs m
  | _, _, .nil => ⟨fun _ => rfl, fun p hp => by simp at hp, fun r hr => by simp at hr, fun r hr => by simp at hr, fun pre b h => by simp at h, Nat.le_refl _⟩
  | _, _, .first (v := v) g e => by
    refine ⟨fun h => by simp at h, fun p hp => ?_, fun r hr => ?_, fun r hr => ?_, fun pre b h => ?_, by simp⟩
    · have : p = 0 := by simp at hp; exact hp
      subst this
      have := r.lo 0 v e
      simp at this
      simp [goodP, headB, ofRow, isI, iv, this]
    · rw [List.mem_singleton.mp hr]; simp
    · rw [List.mem_singleton.mp hr]; exact ⟨0, rfl, e⟩
    · have := snoc_cases (show ([] : List RM.Row) ++ [(0, v, g)] = pre ++ [b] from h)
      obtain ⟨_, rfl⟩ := this
      refine ⟨Nat.le_refl _, v, e, ?_⟩
      unfold RM.rv
      split <;> simp
  | _, _, .stay (rs := rs) (b := b) (m := m) (v := v) p e ev => by
    have f := Pre.f r p
    refine ⟨fun h => by simp at h, f.good, fun x hx => ?_, f.val, fun pre b' h => ?_, Nat.le_succ_of_le f.len⟩
    · have := f.bd x hx
      omega
    · obtain ⟨_, rfl⟩ := snoc_cases h
      refine ⟨by omega, v, by simpa using e, ?_⟩
      rw [← ev]
      congr 1
      omega
  | _, _, .next (rs := rs) (b := b) (m := m) (v := v) g p e => by
    have f := Pre.f r p
    obtain ⟨m1, x, ex, exv⟩ := f.last rs b rfl
    have hbb := f.bd b (by simp)
    have hmv := r.lo m v e
    have hup := r.up (m - 1) x v ex (by rw [show m - 1 + 1 = m by omega]; exact e)
    have hlx := r.lo (m - 1) x ex
    refine ⟨fun h => by simp at h, fun q hq => ?_, fun y hy => ?_, fun y hy => ?_, fun pre b' h => ?_, by have := f.len; simp at this ⊢; omega⟩
    · by_cases hq2 : q < (rs ++ [b]).length
      · have := f.good q hq2
        rw [← this, List.map_append (l₂ := [((m : Int), v, g)])]
        exact goodP_app (by simpa using hq2)
      · have : q = (rs ++ [b]).length := by simp at hq hq2 ⊢; omega
        subst this
        exact goodP_new hmv ⟨hbb.2, by rw [exv]; omega, by rw [exv]; exact hup⟩
    · rcases List.mem_append.mp hy with q | q
      · have := f.bd y q
        omega
      · rw [List.mem_singleton.mp q]
        simp
        omega
    · rcases List.mem_append.mp hy with q | q
      · exact f.val y q
      · rw [List.mem_singleton.mp q]
        exact ⟨m, rfl, e⟩
    · obtain ⟨_, rfl⟩ := snoc_cases h
      refine ⟨by omega, v, by simpa using e, ?_⟩
      unfold RM.rv
      simp only
      have : ((m + 1 : Nat) : Int) - 1 = (m : Int) := by omega
      rw [this]
      split <;> omega
/-- the rows at the end -/
structure RowsOf (vs : List Int) (rs : List RM.Row) : Prop where
  ex : ∃ pre v, vs[vs.length - 1]? = some v ∧ rs = pre ++ [(((vs.length - 1 : Nat) : Int), v, true)] ∧ Pre vs pre (vs.length - 1)
theorem RowsOf.facts {vs : List Int} {rs : List RM.Row} (r : Ris vs) (hn : vs ≠ []) (hl : vs.length ≤ 1000) (h : RowsOf vs rs) :
    rs ≠ [] ∧ rs.length ≤ vs.length ∧ Bd rs ∧ (∀ p, p < rs.length → goodP (rs.map ofRow) p = true) ∧ (∀ p, p < rs.length → goodB (rs.map ofRow) p = true) ∧ (∀ x ∈ rs, ∃ k : Nat, x.1 = (k : Int) ∧ k < vs.length ∧ vs[k]? = some x.2.1) := by
  obtain ⟨pre, v, ev, rfl, p⟩ := h.ex
  have f := p.f r
  have h0 := List.length_pos_iff.mpr hn
  have hv := r.lo _ v ev
  have hval : ∀ x ∈ pre ++ [(((vs.length - 1 : Nat) : Int), v, true)], ∃ k : Nat, x.1 = (k : Int) ∧ k < vs.length ∧ vs[k]? = some x.2.1 := fun x hx => by
    rcases List.mem_append.mp hx with q | q
    · obtain ⟨k, e1, e2⟩ := f.val x q
      exact ⟨k, e1, (List.getElem?_eq_some_iff.mp e2).1, e2⟩
    · rw [List.mem_singleton.mp q]
      exact ⟨vs.length - 1, rfl, by omega, ev⟩
  have hgp : ∀ q, q < (pre ++ [(((vs.length - 1 : Nat) : Int), v, true)]).length → goodP ((pre ++ [(((vs.length - 1 : Nat) : Int), v, true)]).map ofRow) q = true := fun q hq => by
    by_cases hq2 : q < pre.length
    · rw [List.map_append, goodP_app (by simpa using hq2)]
      exact f.good q hq2
    · have hqe : q = pre.length := by simp at hq; omega
      subst hqe
      rcases List.eq_nil_or_concat pre with hp | ⟨pr, b, hp⟩
      · subst hp
        have hz := f.emp rfl
        rw [hz] at ev hv ⊢
        simp at hv
        simp [goodP, headB, ofRow, isI, iv, hv]
      · rw [List.concat_eq_append] at hp
        subst hp
        obtain ⟨m1, x, ex, exv⟩ := f.last pr b rfl
        have hbb := f.bd b (by simp)
        have hup := r.up (vs.length - 1 - 1) x v ex (by rw [show vs.length - 1 - 1 + 1 = vs.length - 1 by omega]; exact ev)
        have hlx := r.lo _ x ex
        exact goodP_new hv ⟨hbb.2, by rw [exv]; omega, by rw [exv]; exact hup⟩
  refine ⟨by simp, by have := f.len; simp; omega, fun x hx => ?_, hgp, fun q hq => ?_, hval⟩
  · obtain ⟨k, e1, hk, _⟩ := hval x hx
    omega
  · have hh := hgp q hq
    by_cases hq2 : q < pre.length
    · rw [List.map_append, goodP_app (by simpa using hq2)] at hh
      rw [List.map_append, goodB_app (by simpa using hq2) (by simp)]
      exact hh
    · have hqe : q = pre.length := by simp at hq; omega
      subst hqe
      rw [goodB_last (r := ofRow (((vs.length - 1 : Nat) : Int), v, true)) (by simp) rfl]
      exact hh
end K06

set_option maxHeartbeats 4000000
namespace K06
open PySem L2 ML
/-- the state and two lists -/
structure G2 (ns : List Int) (h : Hm) (V W : Nat) (us ws : List U) : Prop where
  g : Good ns h
  v0 : V ≠ 0
  v1 : V ≠ 1
  w0 : W ≠ 0
  w1 : W ≠ 1
  vw : V ≠ W
  v : h[V]? = some (.lst us)
  w : h[W]? = some (.lst ws)
theorem G2.draw {ns : List Int} {h h' : Hm} {V W : Nat} {us ws : List U} (q : G2 ns h V W us ws) (g : Good ns h') (k : ∀ i, i ≠ 1 → h'[i]? = h[i]?) : G2 ns h' V W us ws := ⟨g, q.v0, q.v1, q.w0, q.w1, q.vw, by rw [k V q.v1]; exact q.v, by rw [k W q.w1]; exact q.w⟩
theorem G2.setW {ns : List Int} {h : Hm} {V W : Nat} {us ws : List U} (q : G2 ns h V W us ws) (ws' : List U) : G2 ns (h.set W (.lst ws')) V W us ws' :=
  ⟨q.g.at_ (by rw [List.getElem?_set_ne q.w0]) (by rw [List.getElem?_set_ne q.w1]), q.v0, q.v1, q.w0, q.w1, q.vw, by rw [List.getElem?_set_ne (Ne.symm q.vw)]; exact q.v, by rw [List.getElem?_set_self (List.getElem?_eq_some_iff.mp q.w).1]⟩
theorem ix_v {h : Hm} {V k : Nat} {i v : Int} {vs : List Int} (e : h[V]? = some (.lst (vs.map U.int))) (hi : i = (k : Int)) (hv : vs[k]? = some v) : oIx (.ref V) (.int i) h = some (.ok (.int v) h) := ix_l e hi (by simp [hv])
noncomputable abbrev appS : MS := (mDrop (mBM kList fAppend (mVar 3) (mCons (mTup (mCons (mVar 5) (mCons (mOp oIx (mVar 2) (mVar 5)) (mCons (mOp (oEq 3) (mCB m__law_draw (mCons (mVar 0) (mCons (mVar 1) (mCons (mC (.int 2)) mNil)))) (mC (.int 1))) mNil)))) mNil)))
noncomputable abbrev bodyW : MS := (mSeq (mSet 6 (mC (.bl false)))
    (mSeq (mIf (mB (mOp oGt (mCB fLen (mCons (mVar 3) mNil)) (mC (.int 0))))
    (mSeq (mAsg (gT 3 (gC (gN 7) (gC (gN 8) (gC (gN 9) gE)))) (mOp oIx (mVar 3) (mNeg (mC (.int 1)))))
    (mSeq (mIf (mB (mVar 9))
    (mSet 8 (mOp oSub (mOp oAdd (mVar 8) (mVar 5)) (mVar 7)))
    mSkip)
    (mSet 6 (mOp (oEq 3) (mVar 8) (mOp oIx (mVar 2) (mVar 5))))))
    mSkip)
    (mIf (mTOr (mTNot (mB (mVar 6))) (mB (mOp (oEq 3) (mCB m__law_draw (mCons (mVar 0) (mCons (mVar 1) (mCons (mC (.int 3)) mNil)))) (mC (.int 0)))))
    appS
    mSkip)))
theorem append_row {ns : List Int} {h : Hm} {V W : Nat} {vs : List Int} {rs : List RM.Row} (q : G2 ns h V W (vs.map U.int) (rowsU rs)) {m : Nat} {v : Int} (hv : vs[m]? = some v) (hl : rs.length < 1000) (o4 o6 o7 o8 o9 : Option U) :
    ∃ (g : Bool) (h' : Hm), G2 ns h' V W (vs.map U.int) (rowsU (rs ++ [((m : Int), v, g)])) ∧ Same (· = W) h h' ∧ appS [some (.ref 0), some (.ref 1), some (.ref V), some (.ref W), o4, some (.int (m : Int)), o6, o7, o8, o9] h = some (.nx [some (.ref 0), some (.ref 1), some (.ref V), some (.ref W), o4, some (.int (m : Int)), o6, o7, o8, o9] h') := by
  obtain ⟨r, h1, r0, r1, g1, k1, l1, e1⟩ := draw_e q.g (ρ := [some (.ref 0), some (.ref 1), some (.ref V), some (.ref W), o4, some (.int (m : Int)), o6, o7, o8, o9]) rfl rfl 2 (by decide) (by decide)
  have q1 := q.draw g1 k1
  have q2 := q1.setW (rowsU (rs ++ [((m : Int), v, decide (r = 1))]))
  refine ⟨decide (r = 1), _, q2, (Same.draw k1 l1).trans (Same.set (X := fun x => x = W) rfl), ?_⟩
  refine drop_s (w := .non) ((app_l (var_e rfl) (tup_e (cons_e (var_e rfl) (cons_e (op_e (var_e rfl) (var_e rfl) (ix_v (k := m) q.v rfl hv)) (cons_e (op_e e1 c_e ev_eqI) nil_e))) (by show 3 ≤ 1000000; decide)) q1.w (by show _ < 1000000; simp [rowsU]; omega) (klist q.w)).trans ?_)
  simp [rowsU, rowU]
theorem row_min_turn {ns : List Int} {h : Hm} {V W : Nat} {vs : List Int} (r : Ris vs) {rs : List RM.Row} {m : Nat} (hp : Pre vs rs m) (hm : m < vs.length) (hl : vs.length < 500) (q : G2 ns h V W (vs.map U.int) (rowsU rs)) (o4 o6 o7 o8 o9 : Option U) :
    ∃ (rs' : List RM.Row) (p6 p7 p8 p9 : Option U) (h' : Hm), Pre vs rs' (m + 1) ∧ G2 ns h' V W (vs.map U.int) (rowsU rs') ∧ Same (· = W) h h' ∧
      bodyW [some (.ref 0), some (.ref 1), some (.ref V), some (.ref W), o4, some (.int (m : Int)), o6, o7, o8, o9] h = some (.nx [some (.ref 0), some (.ref 1), some (.ref V), some (.ref W), o4, some (.int (m : Int)), p6, p7, p8, p9] h') := by
  obtain ⟨v, hv⟩ : ∃ v, vs[m]? = some v := ⟨vs[m], by simp [hm]⟩
  have hlr : rs.length ≤ m := (hp.f r).len
  have e0 : mSet 6 (mC (.bl false)) [some (.ref 0), some (.ref 1), some (.ref V), some (.ref W), o4, some (.int (m : Int)), o6, o7, o8, o9] h = some (.nx [some (.ref 0), some (.ref 1), some (.ref V), some (.ref W), o4, some (.int (m : Int)), some (.bl false), o7, o8, o9] h) := set_s c_e
  unfold bodyW
  rw [seq_n e0]
  rcases List.eq_nil_or_concat rs with hrs | ⟨pre, b, hrs⟩
  · subst hrs
    have hm0 : m = 0 := (hp.f r).emp rfl
    subst hm0
    have e1 := (if_f (s := (mSeq (mAsg (gT 3 (gC (gN 7) (gC (gN 8) (gC (gN 9) gE)))) (mOp oIx (mVar 3) (mNeg (mC (.int 1)))))
      (mSeq (mIf (mB (mVar 9))
      (mSet 8 (mOp oSub (mOp oAdd (mVar 8) (mVar 5)) (mVar 7)))
      mSkip)
      (mSet 6 (mOp (oEq 3) (mVar 8) (mOp oIx (mVar 2) (mVar 5))))))) (tst_e (ρ := [some (.ref 0), some (.ref 1), some (.ref V), some (.ref W), o4, some (.int ((0 : Nat) : Int)), some (.bl false), o7, o8, o9]) (cb_e (cons_e (var_e (i := 3) rfl) nil_e) (len_l q.w)) c_e (gt_f (j := 0) (by simp [rowsU])))).trans skip_s
    rw [seq_n e1]
    obtain ⟨g, h', q', s', e2⟩ := append_row q hv (by simp) o4 (some (.bl false)) o7 o8 o9
    refine ⟨[(0, v, g)], some (.bl false), o7, o8, o9, h', .first g hv, by simpa using q', s', ?_⟩
    exact (if_t (or_t (not_e (k := false) (b_e (var_e rfl))))).trans e2
  · rw [List.concat_eq_append] at hrs
    subst hrs
    obtain ⟨bs, bv, bg⟩ := b
    have hlast : oIx (.ref W) (.int (-1)) h = some (.ok (rowU (bs, bv, bg)) h) := ix_last (us := rowsU pre) (by rw [q.w]; simp [rowsU])
    have ea : mAsg (gT 3 (gC (gN 7) (gC (gN 8) (gC (gN 9) gE)))) (mOp oIx (mVar 3) (mNeg (mC (.int 1)))) [some (.ref 0), some (.ref 1), some (.ref V), some (.ref W), o4, some (.int (m : Int)), some (.bl false), o7, o8, o9] h = some (.nx [some (.ref 0), some (.ref 1), some (.ref V), some (.ref W), o4, some (.int (m : Int)), some (.bl false), some (.int bs), some (.int bv), some (.bl bg)] h) :=
      asg_s (op_e (var_e rfl) (neg_e c_e) hlast) rfl
    have eb : mIf (mB (mVar 9)) (mSet 8 (mOp oSub (mOp oAdd (mVar 8) (mVar 5)) (mVar 7))) mSkip [some (.ref 0), some (.ref 1), some (.ref V), some (.ref W), o4, some (.int (m : Int)), some (.bl false), some (.int bs), some (.int bv), some (.bl bg)] h = some (.nx [some (.ref 0), some (.ref 1), some (.ref V), some (.ref W), o4, some (.int (m : Int)), some (.bl false), some (.int bs), some (.int (RM.rv (bs, bv, bg) (m : Int))), some (.bl bg)] h) := by
      cases bg with
      | true => exact (if_t (b_e (var_e rfl))).trans (set_s (op_e (op_e (var_e rfl) (var_e rfl) ev_addI) (var_e rfl) rfl))
      | false => exact (if_f (b_e (var_e rfl))).trans skip_s
    have ec : mSet 6 (mOp (oEq 3) (mVar 8) (mOp oIx (mVar 2) (mVar 5))) [some (.ref 0), some (.ref 1), some (.ref V), some (.ref W), o4, some (.int (m : Int)), some (.bl false), some (.int bs), some (.int (RM.rv (bs, bv, bg) (m : Int))), some (.bl bg)] h = some (.nx [some (.ref 0), some (.ref 1), some (.ref V), some (.ref W), o4, some (.int (m : Int)), some (.bl (decide (RM.rv (bs, bv, bg) (m : Int) = v))), some (.int bs), some (.int (RM.rv (bs, bv, bg) (m : Int))), some (.bl bg)] h) :=
      set_s (op_e (var_e rfl) (op_e (var_e rfl) (var_e rfl) (ix_v (k := m) q.v rfl hv)) ev_eqI)
    rw [seq_n ((if_t (tst_e (cb_e (cons_e (var_e rfl) nil_e) (len_l q.w)) c_e (gt_t (by simp [rowsU] <;> omega)))).trans ((seq_n ea).trans ((seq_n eb).trans ec)))]
    by_cases hz : RM.rv (bs, bv, bg) (m : Int) = v
    · rw [decide_eq_true hz]
      obtain ⟨x, h1, x0, x1, g1, k1, l1, e1⟩ := draw_e q.g (ρ := [some (.ref 0), some (.ref 1), some (.ref V), some (.ref W), o4, some (.int (m : Int)), some (.bl true), some (.int bs), some (.int (RM.rv (bs, bv, bg) (m : Int))), some (.bl bg)]) rfl rfl 3 (by decide) (by decide)
      have q1 := q.draw g1 k1
      have et := or_f (not_e (k := true) (b_e (ρ := [some (.ref 0), some (.ref 1), some (.ref V), some (.ref W), o4, some (.int (m : Int)), some (.bl true), some (.int bs), some (.int (RM.rv (bs, bv, bg) (m : Int))), some (.bl bg)]) (h := h) (var_e (i := 6) rfl))) (tst_e e1 c_e (ev_eqI (n := 3) (j := 0)))
      by_cases hx : x = 0
      · rw [decide_eq_true hx] at et
        obtain ⟨g, h', q', s', e2⟩ := append_row q1 hv (by omega) o4 (some (.bl true)) (some (.int bs)) (some (.int (RM.rv (bs, bv, bg) (m : Int)))) (some (.bl bg))
        exact ⟨_, _, _, _, _, h', .next g hp hv, q', (Same.draw k1 l1).trans s', (if_t et).trans e2⟩
      · rw [decide_eq_false hx] at et
        exact ⟨_, _, _, _, _, h1, .stay hp hv hz, q1, Same.draw k1 l1, (if_f et).trans skip_s⟩
    · rw [decide_eq_false hz]
      obtain ⟨g, h', q', s', e2⟩ := append_row q hv (by omega) o4 (some (.bl false)) (some (.int bs)) (some (.int (RM.rv (bs, bv, bg) (m : Int)))) (some (.bl bg))
      exact ⟨_, _, _, _, _, h', .next g hp hv, q', s', (if_t (or_t (not_e (k := false) (b_e (var_e rfl))))).trans e2⟩
theorem rows_min_loop {ns : List Int} {V W : Nat} {vs : List Int} (r : Ris vs) (hl : vs.length < 500) (o4 : Option U) : ∀ (n m : Nat) (rs : List RM.Row) (h : Hm) (o5 o6 o7 o8 o9 : Option U), m + n + 1 = vs.length → Pre vs rs m → G2 ns h V W (vs.map U.int) (rowsU rs) →
    ∃ (rs' : List RM.Row) (p5 p6 p7 p8 p9 : Option U) (h' : Hm), Pre vs rs' (vs.length - 1) ∧ G2 ns h' V W (vs.map U.int) (rowsU rs') ∧ Same (· = W) h h' ∧
      forC (fun _ => True) (gN 5) bodyW (rItems (m : Int) n) [some (.ref 0), some (.ref 1), some (.ref V), some (.ref W), o4, o5, o6, o7, o8, o9] h = some (.nx [some (.ref 0), some (.ref 1), some (.ref V), some (.ref W), o4, p5, p6, p7, p8, p9] h')
  | 0, m, rs, h, o5, o6, o7, o8, o9, hm, hp, q => ⟨rs, o5, o6, o7, o8, o9, h, by rw [show vs.length - 1 = m by omega]; exact hp, q, Same.refl, for_nil (chk := fun _ => True) trivial⟩
  | n + 1, m, rs, h, o5, o6, o7, o8, o9, hm, hp, q => by
    obtain ⟨rs1, p6, p7, p8, p9, h1, hp1, q1, s1, e1⟩ := row_min_turn r hp (by omega) hl q o4 o6 o7 o8 o9
    obtain ⟨rs2, t5, t6, t7, t8, t9, h2, hp2, q2, s2, e2⟩ := rows_min_loop r hl o4 n (m + 1) rs1 h1 (some (.int (m : Int))) p6 p7 p8 p9 (by omega) hp1 q1
    refine ⟨rs2, t5, t6, t7, t8, t9, h2, hp2, q2, s1.trans s2, ?_⟩
    rw [show ((m + 1 : Nat) : Int) = (m : Int) + 1 by omega] at e2
    rw [rItems_succ]
    exact (for_cons (chk := fun _ => True) (g := gN 5) (w := .int (m : Int)) (ρ := [some (.ref 0), some (.ref 1), some (.ref V), some (.ref W), o4, o5, o6, o7, o8, o9]) (ρ1 := [some (.ref 0), some (.ref 1), some (.ref V), some (.ref W), o4, some (.int (m : Int)), o6, o7, o8, o9]) trivial rfl e1).trans e2
theorem rows_spec {ns : List Int} {h : Hm} {V : Nat} {vs : List Int} (r : Ris vs) (hn : vs ≠ []) (hl : vs.length < 500) (q : GL ns h V (vs.map U.int)) : ∃ (rs : List RM.Row) (W : Nat) (h' : Hm), RowsOf vs rs ∧ h.length ≤ W ∧ G2 ns h' V W (vs.map U.int) (rowsU rs) ∧ Same (fun _ => False) h h' ∧ m__law_rows [.ref 0, .ref 1, .ref V] h = some (.ok (.ref W) h') := by
  have h0 := List.length_pos_iff.mpr hn
  have hg := q.g.len
  have hV := (List.getElem?_eq_some_iff.mp q.at_).1
  have q0 : G2 ns (h ++ [.lst []]) V h.length (vs.map U.int) (rowsU []) := ⟨q.g.app _, q.v0, q.v1, by omega, by omega, by omega, app_at _ q.at_, by simp [rowsU]⟩
  obtain ⟨rs, p5, p6, p7, p8, p9, h1, hp, q1, s1, e1⟩ := rows_min_loop r hl (some (.int ((vs.length : Int) - 1))) (vs.length - 1) 0 [] (h ++ [.lst []]) none none none none none (by omega) .nil q0
  obtain ⟨v, hv⟩ : ∃ v, vs[vs.length - 1]? = some v := ⟨vs[vs.length - 1]'(by omega), by simp⟩
  have hlr := (hp.f r).len
  have q2 := q1.setW (rowsU (rs ++ [(((vs.length - 1 : Nat) : Int), v, true)]))
  refine ⟨_, h.length, _, ⟨rs, v, hv, rfl, hp⟩, Nat.le_refl _, q2, ⟨by have := s1.1; simp at this ⊢; omega, fun i hi i1 _ => ?_⟩, ?_⟩
  · rw [List.getElem?_set_ne (by omega), s1.2 i (by simp; omega) i1 (by omega), List.getElem?_append_left hi]
  · refine fun_r rfl ?_
    unfold b__law_rows
    show mSeq _ _ [some (.ref 0), some (.ref 1), some (.ref V), none, none, none, none, none, none, none] h = _
    rw [seq_n (ρ1 := [some (.ref 0), some (.ref 1), some (.ref V), some (.ref h.length), none, none, none, none, none, none]) (h1 := h ++ [.lst []]) (set_s (lst_e nil_e (by decide)))]
    rw [seq_n (ρ1 := [some (.ref 0), some (.ref 1), some (.ref V), some (.ref h.length), some (.int ((vs.length : Int) - 1)), none, none, none, none, none]) (h1 := h ++ [.lst []]) (set_s (op_e (cb_e (cons_e (var_e rfl) nil_e) (len_l q0.v)) c_e (by rw [List.length_map]; rfl)))]
    have hi : iR1 (mVar 4) [some (.ref 0), some (.ref 1), some (.ref V), some (.ref h.length), some (.int ((vs.length : Int) - 1)), none, none, none, none, none] (h ++ [.lst []]) = some (.ok (rItems 0 (vs.length - 1), fun _ => True) (h ++ [.lst []])) := by
      have := it_r1 (e := mVar 4) (ρ := [some (.ref 0), some (.ref 1), some (.ref V), some (.ref h.length), some (.int ((vs.length : Int) - 1)), none, none, none, none, none]) (h := h ++ [.lst []]) (n := (vs.length : Int) - 1) (var_e rfl) (by omega) (by omega)
      rw [show ((vs.length : Int) - 1).toNat = vs.length - 1 by omega] at this
      exact this
    rw [seq_n (for_e hi e1)]
    have hlast : ((vs.length : Int) - 1) = ((vs.length - 1 : Nat) : Int) := by omega
    rw [seq_n (ρ1 := [some (.ref 0), some (.ref 1), some (.ref V), some (.ref h.length), some (.int ((vs.length : Int) - 1)), p5, p6, p7, p8, p9]) (drop_s (w := .non) ((app_l (var_e rfl) (tup_e (cons_e (var_e rfl) (cons_e (op_e (var_e rfl) (var_e rfl) (ix_v q1.v hlast hv)) (cons_e c_e nil_e))) (by show 3 ≤ 1000000; decide)) q1.w (by show _ < 1000000; simp [rowsU]; omega) (klist q1.w)).trans rfl))]
    refine (ret_s (var_e rfl)).trans ?_
    rw [hlast]
    simp [rowsU, rowU]
end K06

set_option maxHeartbeats 4000000
namespace K06
open PySem L2 ML
def hiOk (i : Int) : U → Bool
  | .int b => decide (i ≤ b)
  | _ => true
def numOk (w : U) (low : Int) (high : U) : Bool := match w with
  | .int i => decide (low ≤ i) && hiOk i high
  | _ => false
def IsHi : U → Prop
  | .int _ => True
  | .non => True
  | _ => False
theorem num_s {what : Str} (hwh : what.length ≤ LIM) {w : U} {ρ : Ev} {h : Hm} {i : Nat} (hi : ρ[i]? = some (some (.str what))) {j : Nat} (hj : ρ[j]? = some (some w)) : mRaise 1 (mk2s ("what" : Str) ("value" : Str)) (mCons (mVar i) (mCons (mVar j) mNil)) ρ h = some (.ex 1 [("value", w), ("what", .str what)] ρ h) := by
  unfold mRaise
  rw [cons_e (var_e hi) (cons_e (var_e hj) nil_e)]
  simp [mk2s, hwh]
theorem cint_ok (what : Str) (i : Int) (h : Hm) : m_check_integer [.str what, .int i] h = some (.ok (.int i) h) := by
  refine fun_r rfl ?_
  unfold b_check_integer
  exact (seq_n ((if_f (not_e (k := true) (b_e (cb_e (cons_e (var_e rfl) nil_e) (isint (.int i) trivial h))))).trans skip_s)).trans (ret_s (var_e rfl))
theorem cint_bad (what : Str) (hwh : what.length ≤ LIM) (w : U) (hw : Sc w) (hi : isI w = false) (h : Hm) : m_check_integer [.str what, w] h = some (.ex 1 [("value", w), ("what", .str what)] h) := by
  have e := isint w hw h
  rw [hi] at e
  refine fun_x (ρ1 := [some (.str what), some w]) rfl ?_
  unfold b_check_integer
  exact seq_x ((if_t (not_e (k := false) (b_e (cb_e (cons_e (var_e rfl) nil_e) e)))).trans (num_s hwh rfl rfl))
theorem cnum_ok (what : Str) (w : U) (low : Int) (high : U) (hh : IsHi high) (h : Hm) (hn : numOk w low high = true) : m_check_number [.str what, w, .int low, high] h = some (.ok w h) := by
  cases w with
  | int i =>
    simp only [numOk, Bool.and_eq_true, decide_eq_true_eq] at hn
    obtain ⟨h1, h2⟩ := hn
    refine fun_r rfl ?_
    unfold b_check_number
    refine (seq_n (drop_s (cb_e (cons_e (var_e rfl) (cons_e (var_e rfl) nil_e)) (cint_ok what i h)))).trans ?_
    have t1 : mB (mOp oLt (mVar 1) (mVar 2)) [some (.str what), some (.int i), some (.int low), some high] h = some (.ok false h) := tst_e (var_e rfl) (var_e rfl) (lt_f (by omega))
    cases high with
    | int b =>
      simp only [hiOk, decide_eq_true_eq] at h2
      exact (seq_n ((if_f (or_f t1 (and_t (isn_b (k := true) (var_e rfl) rfl) (tst_e (var_e rfl) (var_e rfl) (gt_f (by omega)))))).trans skip_s)).trans (ret_s (var_e rfl))
    | non => exact (seq_n ((if_f (or_f t1 (and_f (isn_b (k := false) (var_e rfl) rfl)))).trans skip_s)).trans (ret_s (var_e rfl))
    | _ => simp [IsHi] at hh
  | _ => simp [numOk] at hn
theorem cnum_bad (what : Str) (hwh : what.length ≤ LIM) (w : U) (hw : Sc w) (low : Int) (high : U) (hh : IsHi high) (h : Hm) (hn : numOk w low high = false) : m_check_number [.str what, w, .int low, high] h = some (.ex 1 [("value", w), ("what", .str what)] h) := by
  refine fun_x (ρ1 := [some (.str what), some w, some (.int low), some high]) rfl ?_
  unfold b_check_number
  by_cases hi : isI w = true
  · obtain ⟨i, rfl⟩ : ∃ i, w = .int i := by cases w <;> first | exact ⟨_, rfl⟩ | (simp [isI] at hi; done)
    refine (seq_n (drop_s (cb_e (cons_e (var_e rfl) (cons_e (var_e rfl) nil_e)) (cint_ok what i h)))).trans ?_
    by_cases h1 : i < low
    · exact seq_x ((if_t (or_t (tst_e (var_e rfl) (var_e rfl) (lt_t h1)))).trans (num_s hwh rfl rfl))
    · have t1 : mB (mOp oLt (mVar 1) (mVar 2)) [some (.str what), some (.int i), some (.int low), some high] h = some (.ok false h) := tst_e (var_e rfl) (var_e rfl) (lt_f h1)
      have h1' : low ≤ i := by omega
      cases high with
      | int b =>
        have h2 : i > b := by
          simp only [numOk, hiOk, decide_eq_true h1', Bool.true_and, decide_eq_false_iff_not] at hn
          omega
        exact seq_x ((if_t (or_f t1 (and_t (isn_b (k := true) (var_e rfl) rfl) (tst_e (var_e rfl) (var_e rfl) (gt_t h2))))).trans (num_s hwh rfl rfl))
      | non => simp [numOk, hiOk, h1'] at hn
      | _ => simp [IsHi] at hh
  · have hi : isI w = false := by simpa using hi
    exact seq_x (drop_x (by
      unfold mCB
      rw [cons_e (var_e rfl) (cons_e (var_e rfl) nil_e)]
      exact cint_bad what hwh w hw hi h))
/-! lists of pairs -/
def pairU (p : Int × Int) : U := .tup [.int p.1, .int p.2]
def pairsU (l : List (Int × Int)) : List U := l.map pairU
def pairD (p : Int × Int) : PyData := .tuple [.int p.1, .int p.2]
theorem dws_pairs (f : Nat → Option PyData) : ∀ l : List (Int × Int), dWs f (pairsU l) = some (l.map pairD)
  | [] => rfl
  | p :: l => by
    show dWs f (pairU p :: pairsU l) = _
    unfold dWs
    rw [dws_pairs f l]
    rfl
theorem lay_pairs : ∀ l : List (Int × Int), PyData.canLayAll0 (l.map pairD) = true
  | [] => rfl
  | p :: l => by
    show PyData.canLayAll0 (pairD p :: l.map pairD) = true
    unfold PyData.canLayAll0
    rw [lay_pairs l]
    rfl
theorem dep_pairs : ∀ l : List (Int × Int), PyData.depthAll (l.map pairD) ≤ 1
  | [] => by simp [PyData.depthAll]
  | p :: l => by
    show PyData.depthAll (pairD p :: l.map pairD) ≤ 1
    unfold PyData.depthAll
    have := dep_pairs l
    have h1 : PyData.depth (pairD p) = 1 := by simp [pairD, PyData.depth, PyData.depthAll]
    omega
theorem eqv_pairs : ∀ l : List (Int × Int), PyData.eqvAll (l.map pairD) (l.map pairD) = true
  | [] => rfl
  | p :: l => by
    show PyData.eqvAll (pairD p :: l.map pairD) (pairD p :: l.map pairD) = true
    unfold PyData.eqvAll
    rw [eqv_pairs l]
    simp [pairD, PyData.eqv, PyData.eqvAll]
theorem ne_pairs {h : Hm} {A B : Nat} {l : List (Int × Int)} (hA : h[A]? = some (.lst (pairsU l))) (hB : h[B]? = some (.lst (pairsU l))) : oNe 3 (.ref A) (.ref B) h = some (.ok (.bl false) h) := by
  unfold oNe
  have e1 : oEqS true (.ref A) (.ref B) h = none := rfl
  rw [e1]
  simp only
  unfold oEqD
  have dA : ∀ C, h[C]? = some (.lst (pairsU l)) → dW (dR 3 h) (.ref C) = some (.list (l.map pairD)) := fun C hC => by
    show dR 3 h C = _
    unfold dR
    rw [ev_rdL hC]
    simp only [dws_pairs]
  rw [dA A hA, dA B hB]
  simp only
  have hs : SeqAt.shaped (.list (l.map pairD)) = true := by
    unfold SeqAt.shaped
    have h1 : PyData.canLay0 (.list (l.map pairD)) = true := by unfold PyData.canLay0; exact lay_pairs l
    have h2 : PyData.depth (.list (l.map pairD)) ≤ 64 := by unfold PyData.depth; have := dep_pairs l; omega
    rw [h1, decide_eq_true h2]
    rfl
  rw [hs]
  have he : PyData.eqv (.list (l.map pairD)) (.list (l.map pairD)) = true := by unfold PyData.eqv; exact eqv_pairs l
  rw [he]
  rfl
/-! comprehensions that choose -/
theorem lc_filt {it : MI} {t : NT} {tt : MT} {te : ME} {vs : List Nat} {ρ : Ev} {h h1 : Hm} {ws : List U} {chk : Hm → Prop} {p : U → Bool} (hi : it ρ h = some (.ok (ws, chk) h1)) (hc : ∀ acc, chk (h1 ++ [.lst acc]))
    (hl : ws.length ≤ LIM) (ht : ∀ w ∈ ws, ∃ ρ1, t.set w (wipeE ρ vs) = some ρ1 ∧ ∀ acc, tt ρ1 (h1 ++ [.lst acc]) = some (.ok (p w) (h1 ++ [.lst acc])) ∧ te ρ1 (h1 ++ [.lst acc]) = some (.ok w (h1 ++ [.lst acc]))) :
    mLc it t tt te vs ρ h = some (.ok (.ref h1.length) (h1 ++ [.lst (ws.filter p)])) := by
  unfold mLc
  rw [hi]
  simp only [bnd_ok]
  have key : ∀ (us acc : List U), (∀ w ∈ us, w ∈ ws) → acc.length + us.length ≤ LIM → lcGo chk t tt te (wipeE ρ vs) h1.length us (h1 ++ [.lst acc]) = some (.ok (.ref h1.length) (h1 ++ [.lst (acc ++ us.filter p)])) := by
    intro us
    induction us with
    | nil => intro acc _ _; unfold lcGo; rw [if_pos (hc acc)]; simp
    | cons w us ih =>
      intro acc hm hl
      obtain ⟨ρ1, e1, e2⟩ := ht w (hm w List.mem_cons_self)
      obtain ⟨e2, e3⟩ := e2 acc
      simp only [List.length_cons] at hl
      unfold lcGo
      rw [if_pos (hc acc), e1]
      simp only [e2, noEx, bnd_ok]
      by_cases hp : p w = true
      · rw [if_pos hp, e3]
        simp only [noEx, bnd_ok]
        have : (h1 ++ [Cell.lst acc])[h1.length]? = some (.lst acc) := by simp
        rw [this]
        simp only
        rw [if_pos (by omega), set_end rfl, ih (acc ++ [w]) (fun u hu => hm u (List.mem_cons_of_mem _ hu)) (by simp; omega), List.filter_cons, if_pos hp]
        simp
      · rw [if_neg hp, ih acc (fun u hu => hm u (List.mem_cons_of_mem _ hu)) (by omega), List.filter_cons, if_neg hp]
  have := key ws [] (fun w hw => hw) (by simpa using hl)
  simpa using this
/-! stretches -/
noncomputable abbrev bodyS : MS := (mSeq (mSet 6 (mVar 3))
    (mSeq (mIf (mTAnd (mB (mOp oGt (mVar 2) (mC (.int 0)))) (mB (mOp (oEq 3) (mCB m_row_value (mCons (mOp oIx (mVar 0) (mOp oSub (mVar 2) (mC (.int 1)))) (mCons (mOp oSub (mVar 3) (mC (.int 1))) mNil))) (mVar 4))))
    (mSet 6 (mOp oSub (mVar 3) (mC (.int 1))))
    mSkip)
    (mSeq (mSet 7 (mIfE (mB (mVar 5)) (mVar 3) (mOp oSub (mOp oIx (mOp oIx (mVar 0) (mOp oAdd (mVar 2) (mC (.int 1)))) (mC (.int 0))) (mC (.int 1)))))
    (mDrop (mBM kList fAppend (mVar 1) (mCons (mTup (mCons (mVar 6) (mCons (mVar 7) mNil))) mNil))))))
abbrev gStr : MG := (gT 2 (gC (gN 2) (gC (gT 3 (gC (gN 3) (gC (gN 4) (gC (gN 5) gE)))) gE)))
theorem ix_tup {us : List U} {k : Nat} {i : Int} {w : U} {h : Hm} (hi : i = (k : Int)) (e : us[k]? = some w) : oIx (.tup us) (.int i) h = some (.ok w h) := (Holds.ix (R := .tup us) (us := us) (.inr rfl) hi e)
theorem str_turn {rs : List RM.Row} {k : Nat} {r : RM.Row} {p : Option RM.Row} {la : Int} (hr : rs[k]? = some r) (hp : (k = 0 ∧ p = none) ∨ (0 < k ∧ ∃ q, rs[k - 1]? = some q ∧ p = some q)) (hla : (r.2.2 = true ∧ la = r.1) ∨ (r.2.2 = false ∧ ∃ n, rs[k + 1]? = some n ∧ la = n.1 - 1)) {h0 : Hm} {acc : List U} (hl : acc.length < 100000) (o2 o3 o4 o5 o6 o7 : Option U) :
    ∃ ρ1 p2 p3 p4 p5 p6 p7, gStr (.tup [.int k, rowU r]) [some (.tup (rowsU rs)), some (.ref h0.length), o2, o3, o4, o5, o6, o7] = some ρ1 ∧ bodyS ρ1 (h0 ++ [.lst acc]) = some (.nx [some (.tup (rowsU rs)), some (.ref h0.length), p2, p3, p4, p5, p6, p7] (h0 ++ [.lst (acc ++ [pairU (RM.fst1 p r.1 r.2.1, la)])])) := by
  obtain ⟨f, hf⟩ : ∃ f, f = RM.fst1 p r.1 r.2.1 := ⟨_, rfl⟩
  refine ⟨[some (.tup (rowsU rs)), some (.ref h0.length), some (.int k), some (.int r.1), some (.int r.2.1), some (.bl r.2.2), o6, o7], some (.int k), some (.int r.1), some (.int r.2.1), some (.bl r.2.2), some (.int f), some (.int la), rfl, ?_⟩
  unfold bodyS
  obtain ⟨h, hh⟩ : ∃ h, h = h0 ++ [Cell.lst acc] := ⟨_, rfl⟩
  rw [← hh]
  have hix : ∀ (j : Nat) (x : RM.Row), rs[j]? = some x → (rowsU rs)[j]? = some (rowU x) := fun j x e => by show (rs.map rowU)[j]? = _; rw [List.getElem?_map, e]; rfl
  refine (seq_n (set_s (i := 6) (var_e rfl))).trans ?_
  have s2 : mIf (mTAnd (mB (mOp oGt (mVar 2) (mC (.int 0)))) (mB (mOp (oEq 3) (mCB m_row_value (mCons (mOp oIx (mVar 0) (mOp oSub (mVar 2) (mC (.int 1)))) (mCons (mOp oSub (mVar 3) (mC (.int 1))) mNil))) (mVar 4)))) (mSet 6 (mOp oSub (mVar 3) (mC (.int 1)))) mSkip
      [some (.tup (rowsU rs)), some (.ref h0.length), some (.int k), some (.int r.1), some (.int r.2.1), some (.bl r.2.2), some (.int r.1), o7] h = some (.nx [some (.tup (rowsU rs)), some (.ref h0.length), some (.int k), some (.int r.1), some (.int r.2.1), some (.bl r.2.2), some (.int f), o7] h) := by
    rcases hp with ⟨k0, rfl⟩ | ⟨k0, q, hq, rfl⟩
    · have : f = r.1 := hf
      rw [this]
      exact (if_f (and_f (tst_e (var_e rfl) c_e (gt_f (by omega))))).trans skip_s
    · have t1 : mB (mOp oGt (mVar 2) (mC (.int 0))) [some (.tup (rowsU rs)), some (.ref h0.length), some (.int k), some (.int r.1), some (.int r.2.1), some (.bl r.2.2), some (.int r.1), o7] h = some (.ok true h) := tst_e (var_e rfl) c_e (gt_t (by omega))
      have t2 : mB (mOp (oEq 3) (mCB m_row_value (mCons (mOp oIx (mVar 0) (mOp oSub (mVar 2) (mC (.int 1)))) (mCons (mOp oSub (mVar 3) (mC (.int 1))) mNil))) (mVar 4)) [some (.tup (rowsU rs)), some (.ref h0.length), some (.int k), some (.int r.1), some (.int r.2.1), some (.bl r.2.2), some (.int r.1), o7] h = some (.ok (decide (RM.rv q (r.1 - 1) = r.2.1)) h) :=
        tst_e (cb_e (cons_e (op_e (var_e rfl) (op_e (f := oSub) (var_e rfl) c_e rfl) (ix_tup (k := k - 1) (by omega) (hix _ _ hq))) (cons_e (op_e (f := oSub) (var_e rfl) c_e rfl) nil_e)) (row_value_spec q (r.1 - 1) h)) (var_e rfl) ev_eqI
      have hf : f = if RM.rv q (r.1 - 1) = r.2.1 then r.1 - 1 else r.1 := hf
      by_cases z : RM.rv q (r.1 - 1) = r.2.1
      · rw [if_pos z] at hf
        rw [decide_eq_true z] at t2
        rw [hf]
        exact (if_t (and_t t1 t2)).trans (set_s (op_e (f := oSub) (var_e rfl) c_e rfl))
      · rw [if_neg z] at hf
        rw [decide_eq_false z] at t2
        rw [hf]
        exact (if_f (and_t t1 t2)).trans skip_s
  refine (seq_n s2).trans ?_
  have s3 : mSet 7 (mIfE (mB (mVar 5)) (mVar 3) (mOp oSub (mOp oIx (mOp oIx (mVar 0) (mOp oAdd (mVar 2) (mC (.int 1)))) (mC (.int 0))) (mC (.int 1)))) [some (.tup (rowsU rs)), some (.ref h0.length), some (.int k), some (.int r.1), some (.int r.2.1), some (.bl r.2.2), some (.int f), o7] h = some (.nx [some (.tup (rowsU rs)), some (.ref h0.length), some (.int k), some (.int r.1), some (.int r.2.1), some (.bl r.2.2), some (.int f), some (.int la)] h) := by
    refine set_s (w := .int la) ?_
    rcases hla with ⟨hg, rfl⟩ | ⟨hg, n, hn, rfl⟩
    · exact ifE_t (b_e (by rw [hg]; exact var_e rfl)) (var_e rfl)
    · exact ifE_f (b_e (by rw [hg]; exact var_e rfl)) (op_e (f := oSub) (op_e (op_e (var_e rfl) (op_e (var_e rfl) c_e ev_addI) (ix_tup (k := k + 1) (by omega) (hix _ _ hn))) c_e (row_ix0 n h)) c_e rfl)
  refine (seq_n s3).trans ?_
  have hD : h[h0.length]? = some (.lst acc) := by rw [hh]; simp
  refine (drop_s (app_l (var_e rfl) (tup_e (cons_e (var_e rfl) (cons_e (var_e rfl) nil_e)) (by show 2 ≤ 1000000; decide)) hD (by show _ < 1000000; omega) (klist hD))).trans ?_
  rw [hh, set_end rfl, hf]
  rfl
theorem str_loop {rs : List RM.Row} {nx : Int} {h0 : Hm} (hg : ∀ r, rs[rs.length - 1]? = some r → r.2.2 = true) (hrl : rs.length < 10000) : ∀ (rest pre : List RM.Row) (acc : List (Int × Int)) (o2 o3 o4 o5 o6 o7 : Option U), rs = pre ++ rest → acc.length + rest.length < 50000 →
    ∃ p2 p3 p4 p5 p6 p7, forC (fun _ => True) gStr bodyS (eItems pre.length (rowsU rest)) [some (.tup (rowsU rs)), some (.ref h0.length), o2, o3, o4, o5, o6, o7] (h0 ++ [.lst (pairsU acc)]) = some (.nx [some (.tup (rowsU rs)), some (.ref h0.length), p2, p3, p4, p5, p6, p7] (h0 ++ [.lst (pairsU (acc ++ RM.stchs nx (RM.lastOr none pre) rest))]))
  | [], pre, acc, o2, o3, o4, o5, o6, o7, e, hl => ⟨o2, o3, o4, o5, o6, o7, by rw [show RM.stchs nx (RM.lastOr none pre) [] = [] from rfl, List.append_nil]; exact for_nil (chk := fun _ => True) trivial⟩
  | r :: rest, pre, acc, o2, o3, o4, o5, o6, o7, e, hl => by
    have hr : rs[pre.length]? = some r := by rw [e]; simp
    have hp : (pre.length = 0 ∧ RM.lastOr none pre = none) ∨ (0 < pre.length ∧ ∃ q, rs[pre.length - 1]? = some q ∧ RM.lastOr none pre = some q) := by
      rcases List.eq_nil_or_concat pre with rfl | ⟨xs, q, rfl⟩
      · exact .inl ⟨rfl, rfl⟩
      · rw [List.concat_eq_append] at e ⊢
        exact .inr ⟨by simp, q, by rw [e]; simp, RM.lastOr_snoc _ _ _⟩
    obtain ⟨la, hla, hst⟩ : ∃ la, ((r.2.2 = true ∧ la = r.1) ∨ (r.2.2 = false ∧ ∃ n, rs[pre.length + 1]? = some n ∧ la = n.1 - 1)) ∧ RM.stchs nx (RM.lastOr none pre) (r :: rest) = (RM.fst1 (RM.lastOr none pre) r.1 r.2.1, la) :: RM.stchs nx (RM.lastOr none (pre ++ [r])) rest := by
      rw [RM.lastOr_snoc]
      cases rest with
      | nil =>
        have hgr := hg r (by rw [e]; simp)
        exact ⟨r.1, .inl ⟨hgr, rfl⟩, by show [(_, if r.2.2 = true then r.1 else nx - 1)] = _; rw [if_pos hgr]; rfl⟩
      | cons n rest =>
        cases hb : r.2.2 with
        | true => exact ⟨r.1, .inl ⟨rfl, rfl⟩, by show (_, if r.2.2 = true then r.1 else n.1 - 1) :: _ = _; rw [if_pos hb]⟩
        | false => exact ⟨n.1 - 1, .inr ⟨rfl, n, by rw [e]; simp, rfl⟩, by show (_, if r.2.2 = true then r.1 else n.1 - 1) :: _ = _; rw [if_neg (by simp [hb])]⟩
    simp only [List.length_cons] at hl
    obtain ⟨ρ1, p2, p3, p4, p5, p6, p7, e1, e2⟩ := str_turn (h0 := h0) (acc := pairsU acc) hr hp hla (by simp [pairsU]; omega) o2 o3 o4 o5 o6 o7
    have e2' : (h0 ++ [Cell.lst (pairsU acc ++ [pairU (RM.fst1 (RM.lastOr none pre) r.1 r.2.1, la)])]) = h0 ++ [.lst (pairsU (acc ++ [(RM.fst1 (RM.lastOr none pre) r.1 r.2.1, la)]))] := by simp [pairsU]
    rw [e2'] at e2
    obtain ⟨q2, q3, q4, q5, q6, q7, e3⟩ := str_loop hg hrl rest (pre ++ [r]) (acc ++ [(RM.fst1 (RM.lastOr none pre) r.1 r.2.1, la)]) p2 p3 p4 p5 p6 p7 (by rw [e]; simp) (by simp; omega)
    refine ⟨q2, q3, q4, q5, q6, q7, ?_⟩
    show forC _ _ _ (.tup [.int (pre.length : Int), rowU r] :: eItems (pre.length + 1) (rowsU rest)) _ _ = _
    rw [for_cons (chk := fun _ => True) trivial e1 e2]
    rw [List.length_append, List.length_singleton] at e3
    rw [e3, hst, List.append_assoc]
    rfl
theorem stretches_spec {rs : List RM.Row} (nx : Int) {h : Hm} (hg : ∀ r, rs[rs.length - 1]? = some r → r.2.2 = true) (hrl : rs.length < 10000) : m_stretches [.tup (rowsU rs)] h = some (.ok (.ref h.length) (h ++ [.lst (pairsU (RM.stchs nx none rs))])) := by
  obtain ⟨p2, p3, p4, p5, p6, p7, e⟩ := str_loop (nx := nx) (h0 := h) hg hrl rs [] [] none none none none none none rfl (by simp; omega)
  refine fun_r rfl ?_
  unfold b_stretches
  refine (seq_n (set_s (i := 1) (lst_e nil_e (by decide)))).trans ?_
  refine (seq_n (for_e (it_et (var_e rfl)) e)).trans ?_
  rw [List.nil_append]
  exact ret_s (var_e rfl)
theorem filt_pairs (k : Int) (l : List (Int × Int)) : (pairsU l).filter (fun w => match w with | .tup [.int a, .int b] => decide (b - a + 1 ≥ k) | _ => false) = pairsU (RM.filt k l) := by
  induction l with
  | nil => rfl
  | cons p l ih =>
    show (pairU p :: pairsU l).filter _ = _
    unfold RM.filt at ih ⊢
    rw [List.filter_cons, List.filter_cons, ih]
    show (if decide (p.2 - p.1 + 1 ≥ k) = true then pairU p :: _ else _) = _
    split
    · rfl
    · rfl
theorem levels_ok {M : Nat} {rs : List RM.Row} {k : Int} (nx : Int) {h : Hm} (hM : h[M]? = some (mapC rs)) (hk : 2 ≤ k) (hg : ∀ r, rs[rs.length - 1]? = some r → r.2.2 = true) (hrl : rs.length < 10000) (hsl : (RM.stchs nx none rs).length ≤ 10000) :
    ∃ D E, m_Rising_levels [.ref M, .int k] h = some (.ok (.ref D) (h ++ E)) ∧ h.length ≤ D ∧ (h ++ E)[D]? = some (.lst (pairsU (RM.filt k (RM.stchs nx none rs)))) := by
  obtain ⟨h1, hh1⟩ : ∃ h1, h1 = h ++ [Cell.lst (pairsU (RM.stchs nx none rs))] := ⟨_, rfl⟩
  have hL : h1[h.length]? = some (.lst (pairsU (RM.stchs nx none rs))) := by rw [hh1]; simp
  have hi : iSeq (mCB m_stretches (mCons (mAttrX ("rows" : Str) at_rows_i at_rows_e (mVar 0)) mNil)) [some (.ref M), some (.int k), none, none] h = some (.ok (pairsU (RM.stchs nx none rs), fun h' => h'[h.length]? = some (.lst (pairsU (RM.stchs nx none rs)))) h1) := by
    refine it_l (cb_e (cons_e (attr_i (var_e rfl) hM rfl (w := .tup (rowsU rs)) (by simp [fget])) nil_e) ?_) hL
    rw [hh1]
    exact stretches_spec nx hg hrl
  have key := lc_filt (t := NT.tup [2, 3]) (vs := [2, 3]) (tt := mB (mOp oGe (mOp oAdd (mOp oSub (mVar 3) (mVar 2)) (mC (.int 1))) (mVar 1))) (te := mTup (mCons (mVar 2) (mCons (mVar 3) mNil))) (p := fun w => match w with | .tup [.int a, .int b] => decide (b - a + 1 ≥ k) | _ => false) hi (fun acc => app_at _ hL) (by simp only [pairsU, List.length_map]; show _ ≤ 1000000; omega) (fun w hw => by
    obtain ⟨p, _, rfl⟩ := List.mem_map.mp hw
    refine ⟨[some (.ref M), some (.int k), some (.int p.1), some (.int p.2)], rfl, fun acc => ⟨?_, tup_e (cons_e (var_e rfl) (cons_e (var_e rfl) nil_e)) (by show 2 ≤ 1000000; decide)⟩⟩
    exact tst_e (op_e (f := oAdd) (op_e (f := oSub) (var_e rfl) (var_e rfl) rfl) c_e ev_addI) (var_e rfl) rfl)
  rw [filt_pairs] at key
  refine ⟨h1.length, [.lst (pairsU (RM.stchs nx none rs)), .lst (pairsU (RM.filt k (RM.stchs nx none rs)))], ?_, by rw [hh1]; simp, by rw [hh1]; simp⟩
  refine fun_r rfl ?_
  unfold b_Rising_levels
  refine (seq_n (drop_s (cb_e (cons_e c_e (cons_e (var_e rfl) (cons_e c_e (cons_e c_e nil_e)))) (cnum_ok "least" (.int k) 2 .non trivial h (by simp [numOk, hiOk, hk]))))).trans ?_
  refine ret_s (key.trans ?_)
  rw [hh1]
  simp
theorem levels_bad {M : Nat} {w : U} {h : Hm} (hw : Sc w) (hn : numOk w 2 .non = false) : m_Rising_levels [.ref M, w] h = some (.ex 1 [("value", w), ("what", .str "least")] h) := by
  refine fun_x (ρ1 := [some (.ref M), some w, none, none]) rfl ?_
  unfold b_Rising_levels
  exact seq_x (drop_x (cb_e (cons_e c_e (cons_e (var_e rfl) (cons_e c_e (cons_e c_e nil_e)))) (cnum_bad "least" (by decide +kernel) w hw 2 .non trivial h hn)))
/-! what is due -/
def atV (vs : List Int) (t : Int) : Int := if t < vs.length then (vs[t.toNat]?).getD 0 else (vs[vs.length - 1]?).getD 0 + t - vs.length + 1
theorem at_spec {h : Hm} {V : Nat} {vs : List Int} (hV : h[V]? = some (.lst (vs.map U.int))) (hn : vs ≠ []) {t : Int} (ht : 0 ≤ t) : m__law_at [.ref V, .int t] h = some (.ok (.int (atV vs t)) h) := by
  have h0 := List.length_pos_iff.mpr hn
  refine fun_r rfl ?_
  unfold b__law_at
  have el : mCB fLen (mCons (mVar 0) mNil) [some (.ref V), some (.int t)] h = some (.ok (.int vs.length) h) := cb_e (cons_e (var_e rfl) nil_e) (by rw [len_l hV]; simp)
  by_cases hc : t < vs.length
  · refine seq_r ((if_t (tst_e (var_e rfl) el (lt_t hc))).trans (ret_s (op_e (var_e rfl) (var_e rfl) ?_)))
    have : t.toNat < vs.length := by omega
    refine ix_v hV (k := t.toNat) (by omega) ?_
    unfold atV
    rw [if_pos hc]
    simp [this]
  · refine (seq_n ((if_f (tst_e (var_e rfl) el (lt_f hc))).trans skip_s)).trans (ret_s ?_)
    have ex : vs = vs.take (vs.length - 1) ++ [(vs[vs.length - 1]?).getD 0] := by
      have h1 : vs.length - 1 < vs.length := by omega
      have := List.take_append_getElem h1
      rw [show vs.length - 1 + 1 = vs.length by omega, List.take_length] at this
      rw [List.getElem?_eq_getElem h1]
      exact this.symm
    have hlast : oIx (.ref V) (.int (-1)) h = some (.ok (.int ((vs[vs.length - 1]?).getD 0)) h) := ix_last (us := (vs.take (vs.length - 1)).map U.int) (by rw [hV]; congr 2; exact (congrArg (List.map U.int) ex).trans (by rw [List.map_append]; rfl))
    unfold atV
    rw [if_neg hc]
    exact op_e (f := oAdd) (op_e (f := oSub) (op_e (f := oAdd) (op_e (var_e rfl) (neg_e c_e) hlast) (var_e rfl) ev_addI) el rfl) c_e ev_addI
noncomputable abbrev bodyU : MS := (mIf (mB (mOp (oNe 3) (mCB m__law_at (mCons (mVar 0) (mCons (mOp oAdd (mVar 4) (mC (.int 1))) mNil))) (mCB m__law_at (mCons (mVar 0) (mCons (mVar 4) mNil)))))
    (mSeq (mIf (mB (mOp oGe (mOp oAdd (mOp oSub (mVar 4) (mVar 3)) (mC (.int 1))) (mVar 1)))
    (mDrop (mBM kList fAppend (mVar 2) (mCons (mTup (mCons (mVar 3) (mCons (mVar 4) mNil))) mNil)))
    mSkip)
    (mSet 3 (mOp oAdd (mVar 4) (mC (.int 1)))))
    mSkip)
theorem due_turn {h0 : Hm} {V : Nat} {vs : List Int} (hV : h0[V]? = some (.lst (vs.map U.int))) (hn : vs ≠ []) {m k : Int} (hm : 0 ≤ m) {p : List (Int × Int) × Int} (hl : p.1.length < 10000) :
    bodyU [some (.ref V), some (.int k), some (.ref h0.length), some (.int p.2), some (.int m)] (h0 ++ [.lst (pairsU p.1)]) = some (.nx [some (.ref V), some (.int k), some (.ref h0.length), some (.int (RM.duS (atV vs) k m p).2), some (.int m)] (h0 ++ [.lst (pairsU (RM.duS (atV vs) k m p).1)])) := by
  obtain ⟨h, hh⟩ : ∃ h, h = h0 ++ [Cell.lst (pairsU p.1)] := ⟨_, rfl⟩
  have hV1 : h[V]? = some (.lst (vs.map U.int)) := by rw [hh]; exact app_at _ hV
  have hD : h[h0.length]? = some (.lst (pairsU p.1)) := by rw [hh]; simp
  rw [← hh]
  have a1 : mCB m__law_at (mCons (mVar 0) (mCons (mOp oAdd (mVar 4) (mC (.int 1))) mNil)) [some (.ref V), some (.int k), some (.ref h0.length), some (.int p.2), some (.int m)] h = some (.ok (.int (atV vs (m + 1))) h) := cb_e (cons_e (var_e rfl) (cons_e (op_e (var_e rfl) c_e ev_addI) nil_e)) (at_spec hV1 hn (by omega))
  have a2 : mCB m__law_at (mCons (mVar 0) (mCons (mVar 4) mNil)) [some (.ref V), some (.int k), some (.ref h0.length), some (.int p.2), some (.int m)] h = some (.ok (.int (atV vs m)) h) := cb_e (cons_e (var_e rfl) (cons_e (var_e rfl) nil_e)) (at_spec hV1 hn hm)
  unfold RM.duS
  by_cases e : atV vs (m + 1) = atV vs m
  · rw [if_neg (by simpa using e)]
    refine (if_f (tst_e a1 a2 (ne_f e))).trans (skip_s.trans ?_)
    rw [hh]
  · rw [if_pos e]
    refine (if_t (tst_e a1 a2 (ne_t e))).trans ?_
    have eg : mOp oAdd (mOp oSub (mVar 4) (mVar 3)) (mC (.int 1)) [some (.ref V), some (.int k), some (.ref h0.length), some (.int p.2), some (.int m)] h = some (.ok (.int (m - p.2 + 1)) h) := op_e (f := oAdd) (op_e (f := oSub) (var_e rfl) (var_e rfl) rfl) c_e ev_addI
    by_cases g : m - p.2 + 1 ≥ k
    · rw [if_pos g]
      refine (seq_n (ρ1 := [some (.ref V), some (.int k), some (.ref h0.length), some (.int p.2), some (.int m)]) (h1 := h0 ++ [.lst (pairsU (p.1 ++ [(p.2, m)]))]) ?_).trans (set_s (op_e (var_e rfl) c_e ev_addI))
      refine (if_t (tst_e eg (var_e rfl) (ge_t g))).trans ?_
      refine (drop_s (app_l (var_e rfl) (tup_e (cons_e (var_e rfl) (cons_e (var_e rfl) nil_e)) (by show 2 ≤ 1000000; decide)) hD (by simp only [pairsU, List.length_map]; show _ < 1000000; omega) (klist hD))).trans ?_
      rw [hh, set_end rfl]
      simp [pairsU, pairU]
    · rw [if_neg g]
      refine (seq_n ((if_f (tst_e eg (var_e rfl) (ge_f g))).trans skip_s)).trans ?_
      rw [hh]
      exact set_s (op_e (var_e rfl) c_e ev_addI)
theorem duS_len {A : Int → Int} {k m : Int} {p : List (Int × Int) × Int} : (RM.duS A k m p).1.length ≤ p.1.length + 1 := by
  unfold RM.duS
  split
  · simp only
    split <;> simp
  · omega
theorem due_loop {h0 : Hm} {V : Nat} {vs : List Int} (hV : h0[V]? = some (.lst (vs.map U.int))) (hn : vs ≠ []) {k : Int} : ∀ (n : Nat) (m : Int) (p : List (Int × Int) × Int) (o4 : Option U), 0 ≤ m → p.1.length + n < 10000 →
    ∃ q3 q4, forC (fun _ => True) (gN 4) bodyU (rItems m n) [some (.ref V), some (.int k), some (.ref h0.length), some (.int p.2), o4] (h0 ++ [.lst (pairsU p.1)]) = some (.nx [some (.ref V), some (.int k), some (.ref h0.length), q3, q4] (h0 ++ [.lst (pairsU (RM.du (atV vs) k m n p).1)]))
  | 0, m, p, o4, hm, hl => ⟨_, o4, for_nil (chk := fun _ => True) trivial⟩
  | n + 1, m, p, o4, hm, hl => by
    rw [rItems_succ]
    have := duS_len (A := atV vs) (k := k) (m := m) (p := p)
    obtain ⟨q3, q4, e⟩ := due_loop hV hn n (m + 1) (RM.duS (atV vs) k m p) (some (.int m)) (by omega) (by omega)
    exact ⟨q3, q4, by rw [for_cons (chk := fun _ => True) (g := gN 4) (ρ1 := [some (.ref V), some (.int k), some (.ref h0.length), some (.int p.2), some (.int m)]) trivial rfl (due_turn hV hn hm (by omega))]; exact e⟩
theorem due_spec {h : Hm} {V : Nat} {vs : List Int} (hV : h[V]? = some (.lst (vs.map U.int))) (hn : vs ≠ []) (hl : vs.length ≤ 1000) {k : Int} : m__law_due [.ref V, .int k] h = some (.ok (.ref h.length) (h ++ [.lst (pairsU (RM.du (atV vs) k 0 (vs.length + 1) ([], 0)).1)])) := by
  obtain ⟨q3, q4, e⟩ := due_loop (h0 := h) hV hn (k := k) (vs.length + 1) 0 ([], 0) none (by omega) (by simp; omega)
  refine fun_r rfl ?_
  unfold b__law_due
  refine (seq_n (set_s (i := 2) (lst_e nil_e (by decide)))).trans ?_
  refine (seq_n (set_s (i := 3) c_e)).trans ?_
  refine (seq_n (for_e (it_r1 (n := (vs.length : Int) + 1) (op_e (cb_e (cons_e (var_e rfl) nil_e) (by rw [len_l (app_at _ hV)]; simp; rfl)) c_e ev_addI) (by omega) (by omega)) (by rw [show ((vs.length : Int) + 1).toNat = vs.length + 1 by omega]; exact e))).trans ?_
  exact ret_s (var_e rfl)
end K06

set_option maxHeartbeats 4000000
namespace K06
open PySem L2 ML
theorem atV_lt {vs : List Int} {k : Nat} {v : Int} (e : vs[k]? = some v) : atV vs (k : Int) = v := by
  have := (List.getElem?_eq_some_iff.mp e).1
  unfold atV
  rw [if_pos (by omega), Int.toNat_natCast, e]
  rfl
theorem atV_ge {vs : List Int} {v t : Int} (e : vs[vs.length - 1]? = some v) (ht : ((vs.length - 1 : Nat) : Int) ≤ t) : atV vs t = v + (t - ((vs.length - 1 : Nat) : Int)) := by
  have := (List.getElem?_eq_some_iff.mp e).1
  by_cases h : t < vs.length
  · have : t = ((vs.length - 1 : Nat) : Int) := by omega
    rw [this, atV_lt e]
    omega
  · unfold atV
    rw [if_neg h, e]
    simp only [Option.getD_some]
    omega
theorem Pre.cov {vs : List Int} : ∀ {rs : List RM.Row} {m : Nat}, Pre vs rs m → rs ≠ [] → RM.CovTo (atV vs) rs (m : Int)
  | _, _, .nil, h => absurd rfl h
  | _, _, .first (v := v) g e, _ => ⟨by simp, fun t a b => by
      have h0 : t = ((0 : Nat) : Int) := by simp at a b; omega
      rw [h0, atV_lt e]
      unfold RM.rv
      split <;> simp⟩
  | _, _, .stay (rs := rs) (b := b) (m := m) (v := v) p e ev, _ => by
    rw [show ((m + 1 : Nat) : Int) = (m : Int) + 1 by omega]
    exact RM.CovTo.ext (by omega) (fun t a c => by
      have : t = (m : Int) := by omega
      rw [this, atV_lt e, ev]) rs (Pre.cov p (by simp))
  | _, _, .next (rs := rs) (b := b) (m := m) (v := v) g p e, _ => by
    rw [show ((m + 1 : Nat) : Int) = (m : Int) + 1 by omega]
    exact RM.CovTo.next (atV_lt e) rs (Pre.cov p (by simp))
theorem Pre.head {vs : List Int} : ∀ {rs : List RM.Row} {m : Nat}, Pre vs rs m → ∀ r, rs.head? = some r → r.1 = 0
  | _, _, .nil, r, h => by simp at h
  | _, _, .first (v := v) g e, r, h => by simp at h; rw [← h]
  | _, _, .stay p e ev, r, h => Pre.head p r h
  | _, _, .next (rs := rs) (b := b) g p e, r, h => Pre.head p r (by
      cases rs with
      | nil => simpa using h
      | cons x xs => simpa using h)
theorem RowsOf.walk {vs : List Int} {rs : List RM.Row} (r : Ris vs) (hn : vs ≠ []) (h : RowsOf vs rs) : RM.short rs = RM.fin (RM.walk (atV vs) (vs.length + 1)) ∧ (RM.walk (atV vs) (vs.length + 1)).st = some 1 := by
  obtain ⟨pre, v, ev, rfl, p⟩ := h.ex
  have h0 := List.length_pos_iff.mpr hn
  obtain ⟨ls, hls⟩ : ∃ ls : Nat, ls = vs.length - 1 := ⟨_, rfl⟩
  have hge : ∀ t, (ls : Int) ≤ t → atV vs t = RM.rv ((ls : Int), v, true) t := fun t ht => by
    rw [atV_ge ev (by omega), ← hls]
    unfold RM.rv
    simp only [if_true]
    omega
  rw [← hls] at p ⊢
  have hcov : RM.CovTo (atV vs) (pre ++ [((ls : Int), v, true)]) ((ls : Int) + 3) := by
    rcases List.eq_nil_or_concat pre with rfl | ⟨xs, b, rfl⟩
    · exact ⟨by show (ls : Int) < ls + 3; omega, fun t a _ => hge t a⟩
    · rw [List.concat_eq_append] at p ⊢
      refine RM.CovTo.ext (m := (ls : Int) + 1) (by omega) (fun t a _ => hge t (by omega)) (xs ++ [b]) ?_
      exact RM.CovTo.next (by rw [hls]; exact atV_lt ev) xs (Pre.cov p (by simp))
  have hls2 : RM.lastS (pre ++ [((ls : Int), v, true)]) = ls := RM.lastS_snoc pre _
  have hw : RM.short (pre ++ [((ls : Int), v, true)]) = RM.fin (RM.walk (atV vs) (ls + 2)) := by
    obtain ⟨r0, rest, hr⟩ : ∃ r0 rest, pre ++ [((ls : Int), v, true)] = r0 :: rest := by
      cases pre with
      | nil => exact ⟨_, _, rfl⟩
      | cons x xs => exact ⟨_, _, rfl⟩
    have hr0 : r0.1 = 0 := by
      cases pre with
      | nil =>
        have := (Pre.f r p).emp rfl
        simp at hr
        rw [← hr.1]
        simp
        omega
      | cons x xs =>
        simp at hr
        rw [← hr.1]
        exact Pre.head p x rfl
    rw [hr] at hcov hls2 ⊢
    rw [RM.short_walk hcov (by rw [hls2]) hr0, hls2]
    congr 2
  rw [show vs.length + 1 = ls + 2 by omega]
  refine ⟨hw, RM.st_end ls ?_ ?_⟩
  · rw [hge _ (by omega), hge _ (by omega)]
    unfold RM.rv
    simp only [if_true]
    omega
  · rw [hge _ (by omega), hge _ (by omega)]
    unfold RM.rv
    simp only [if_true]
    omega
theorem stchs_len {nx : Int} : ∀ (p : Option RM.Row) (rs : List RM.Row), (RM.stchs nx p rs).length = rs.length
  | _, [] => rfl
  | _, [r] => rfl
  | p, r :: q :: rest => by
    show (RM.stchs nx (some r) (q :: rest)).length + 1 = _
    rw [stchs_len (some r) (q :: rest)]
    rfl
/-- the map M and the values V stand -/
structure MV (h : Hm) (M V : Nat) (vs : List Int) : Prop where
  m : h[M]? = some (mapC (RM.fin (RM.walk (atV vs) (vs.length + 1))))
  v : h[V]? = some (.lst (vs.map U.int))
theorem MV.app {h : Hm} {M V : Nat} {vs : List Int} (q : MV h M V vs) (e : Hm) : MV (h ++ e) M V vs := ⟨app_at e q.m, app_at e q.v⟩
theorem meth_e {c M : Nat} {m : Str} {f : MF} {o : ME} {es : MA} {ρ : Ev} {h h1 : Hm} {fs : List (Str × U)} {ws : List U} {r : Option (Rz U)} (eo : o ρ h = some (.ok (.ref M) h)) (hM : h[M]? = some (.ins c fs)) (hf : fget m fs = none) (ee : es ρ h = some (.ok ws h1)) (e : f (.ref M :: ws) h1 = r) : mMeth c m f o es ρ h = r := by
  unfold mMeth
  rw [eo]
  simp only [bnd_ok, hM]
  rw [if_pos ⟨trivial, hf⟩, ee]
  exact e
theorem lv_none (w : U) : fget ("levels" : Str) [("rows", w)] = none := by
  have : ¬ (("levels" : Str) = "rows") := by decide +kernel
  simp [fget, this]
section
variable {vs : List Int} {M V : Nat}
theorem lev_call {h : Hm} (q : MV h M V vs) (hn : vs ≠ []) (hl : vs.length ≤ 1000) (hst : (RM.walk (atV vs) (vs.length + 1)).st = some 1) {k : Int} (hk : 2 ≤ k) {ρ : Ev} (h3 : ρ[3]? = some (some (.ref M))) {e : ME} (ee : e ρ h = some (.ok (.int k) h)) :
    ∃ D E, mMeth 3 ("levels" : Str) m_Rising_levels (mVar 3) (mCons e mNil) ρ h = some (.ok (.ref D) (h ++ E)) ∧ h.length ≤ D ∧ (h ++ E)[D]? = some (.lst (pairsU (RM.du (atV vs) k 0 (vs.length + 1) ([], 0)).1)) := by
  have hlen : (RM.fin (RM.walk (atV vs) (vs.length + 1))).length ≤ vs.length + 2 := by
    unfold RM.fin RM.walk
    have := RM.runV_len (val := atV vs) (vs.length + 1) 1 ⟨[], 0, atV vs 0, none, atV vs 0⟩
    simp at this ⊢
    omega
  obtain ⟨D, E, e1, hD, e2⟩ := levels_ok 0 q.m hk (fun r hr => by
    unfold RM.fin at hr
    simp at hr
    rw [← hr]) (by omega) (by rw [stchs_len]; omega)
  rw [← RM.levels_due hk hst] at e2
  exact ⟨D, E, meth_e (var_e h3) q.m (lv_none _) (cons_e ee nil_e) e1, hD, e2⟩
theorem lev_ne {h : Hm} (q : MV h M V vs) (hn : vs ≠ []) (hl : vs.length ≤ 1000) (hst : (RM.walk (atV vs) (vs.length + 1)).st = some 1) {k : Int} (hk : 2 ≤ k) {ρ : Ev} (h3 : ρ[3]? = some (some (.ref M))) (h2 : ρ[2]? = some (some (.ref V))) {e : ME} (ee : ∀ h', e ρ h' = some (.ok (.int k) h')) :
    ∃ E, mB (mOp (oNe 3) (mMeth 3 ("levels" : Str) m_Rising_levels (mVar 3) (mCons e mNil)) (mCB m__law_due (mCons (mVar 2) (mCons e mNil)))) ρ h = some (.ok false (h ++ E)) := by
  obtain ⟨D, E, e1, hD, e2⟩ := lev_call q hn hl hst hk h3 (ee h)
  have e3 := due_spec (q.app E).v hn hl (k := k)
  refine ⟨E ++ [.lst (pairsU (RM.du (atV vs) k 0 (vs.length + 1) ([], 0)).1)], ?_⟩
  rw [← List.append_assoc]
  exact tst_e e1 (cb_e (cons_e (var_e h2) (cons_e (ee _) nil_e)) e3) (ne_pairs (app_at _ e2) (by simp))
theorem told_suite {i : Nat} {w : Str} {u : U} {ρ : Ev} {H : Hm} {j : Nat} (hρ : ρ[i]? = some (some (.ref j))) (hc : H[j]? = some (.exc 1 [("value", u), ("what", .str w)])) :
    (mRet (mTup (mCons (mAttrX ("what" : Str) at_what_i at_what_e (mVar i)) (mCons (mAttrX ("value" : Str) at_value_i at_value_e (mVar i)) mNil)))) ρ H = some (.rt (.tup [.str w, u]) H) := by
  have hwv : ¬ (("what" : Str) = "value") := by decide +kernel
  refine ret_s (tup_e (cons_e (attr_x (var_e hρ) hc rfl (w := .str w) ?_) (cons_e (attr_x (var_e hρ) hc rfl (w := u) ?_) nil_e)) (by show 2 ≤ 1000000; decide))
  · simp [fget, hwv]
  · simp [fget]
theorem told_spec {h : Hm} (q : MV h M V vs) {w : U} (hw : Sc w) (hb : numOk w 2 .non = false) : ∃ E, m__law_told [.ref M, w] h = some (.ok (.tup [.str ("least" : Str), w]) (h ++ E)) := by
  refine ⟨[.exc 1 [("value", w), ("what", .str ("least" : Str))]], fun_r rfl ?_⟩
  unfold b__law_told
  have e := levels_bad (M := M) (h := h) hw hb
  show mTry _ _ _ _ [some (.ref M), some w, none] h = _
  unfold mTry
  rw [ret_x (meth_e (var_e rfl) q.m (lv_none _) (cons_e (var_e rfl) nil_e) e)]
  simp only
  rw [show tk_BadNumber 1 = some true from rfl]
  simp only
  have key := told_suite (i := 2) (w := "least") (u := w) (ρ := [some (.ref M), some w, some (.ref h.length)]) (H := h ++ [.exc 1 [("value", w), ("what", .str ("least" : Str))]]) rfl (by simp)
  show (match (mRet _) [some (.ref M), some w, some (.ref h.length)] (h ++ [.exc 1 [("value", w), ("what", .str ("least" : Str))]]) with
    | some (.ex _ _ _ _) => none
    | r => tryEnd 2 r) = _
  rw [key]
  rfl
theorem ne_least {u : U} (hu : Sc u) {h : Hm} : oNe 3 (.tup [.str ("least" : Str), u]) (.tup [.str ("least" : Str), u]) h = some (.ok (.bl false) h) := by
  have h1 : PyData.strOk ("least" : Str) = true := by decide +kernel
  cases u with
  | tup ws => simp [Sc] at hu
  | ref i => simp [Sc] at hu
  | str s => simp [Sc] at hu
  | _ => simp [oNe, oEqS, sEq, oEqD, dW, dWs, SeqAt.shaped, PyData.canLay0, PyData.canLayAll0, PyData.depth, PyData.depthAll, PyData.eqv, PyData.eqvAll, h1]
noncomputable abbrev bodyN : MS := (mIf (mB (mOp (oNe 3) (mMeth 3 ("levels" : Str) m_Rising_levels (mVar 3) (mCons (mVar 5) mNil)) (mCB m__law_due (mCons (mVar 2) (mCons (mVar 5) mNil)))))
    (mRet (mC (.bl false)))
    mSkip)
theorem sizes_loop (hn : vs ≠ []) (hl : vs.length ≤ 1000) (hst : (RM.walk (atV vs) (vs.length + 1)).st = some 1) (o0 o1 o4 : Option U) : ∀ (n : Nat) (k : Int) (h : Hm) (o5 : Option U), 2 ≤ k → MV h M V vs →
    ∃ p5 E, forC (fun _ => True) (gN 5) bodyN (rItems k n) [o0, o1, some (.ref V), some (.ref M), o4, o5] h = some (.nx [o0, o1, some (.ref V), some (.ref M), o4, p5] (h ++ E))
  | 0, k, h, o5, hk, q => ⟨o5, [], by rw [List.append_nil]; exact for_nil (chk := fun _ => True) trivial⟩
  | n + 1, k, h, o5, hk, q => by
    rw [rItems_succ]
    obtain ⟨E, e⟩ := lev_ne q hn hl hst hk (ρ := [o0, o1, some (.ref V), some (.ref M), o4, some (.int k)]) rfl rfl (e := mVar 5) (fun h' => var_e rfl)
    obtain ⟨p5, E2, e2⟩ := sizes_loop hn hl hst o0 o1 o4 n (k + 1) (h ++ E) (some (.int k)) (by omega) (q.app E)
    refine ⟨p5, E ++ E2, ?_⟩
    rw [for_cons (chk := fun _ => True) (g := gN 5) (ρ1 := [o0, o1, some (.ref V), some (.ref M), o4, some (.int k)]) trivial rfl ((if_f e).trans skip_s), e2, List.append_assoc]
noncomputable abbrev bodyT : MS := (mIf (mB (mOp (oNe 3) (mCB m__law_told (mCons (mVar 3) (mCons (mVar 5) mNil))) (mTup (mCons (mC (.str ("least" : Str))) (mCons (mVar 5) mNil)))))
    (mRet (mC (.bl false)))
    mSkip)
theorem bad_loop {L : Nat} {us : List U} (o0 o1 o4 : Option U) : ∀ (ws : List U) (h : Hm) (o5 : Option U), (∀ w ∈ ws, Sc w ∧ numOk w 2 .non = false) → MV h M V vs → h[L]? = some (.lst us) →
    ∃ p5 E, forC (fun h' => h'[L]? = some (.lst us)) (gN 5) bodyT ws [o0, o1, some (.ref V), some (.ref M), o4, o5] h = some (.nx [o0, o1, some (.ref V), some (.ref M), o4, p5] (h ++ E))
  | [], h, o5, hw, q, hL => ⟨o5, [], by rw [List.append_nil]; exact for_nil (chk := fun h' => h'[L]? = some (.lst us)) hL⟩
  | w :: ws, h, o5, hw, q, hL => by
    obtain ⟨h1, h2⟩ := hw w List.mem_cons_self
    obtain ⟨E, e⟩ := told_spec q h1 h2
    obtain ⟨p5, E2, e2⟩ := bad_loop o0 o1 o4 ws (h ++ E) (some w) (fun u hu => hw u (List.mem_cons_of_mem _ hu)) (q.app E) (app_at E hL)
    refine ⟨p5, E ++ E2, ?_⟩
    rw [for_cons (chk := fun h' => h'[L]? = some (.lst us)) (g := gN 5) (ρ1 := [o0, o1, some (.ref V), some (.ref M), o4, some w]) hL rfl ((if_f (tst_e (cb_e (cons_e (var_e rfl) (cons_e (var_e rfl) nil_e)) e) (tup_e (cons_e c_e (cons_e (var_e rfl) nil_e)) (by show 2 ≤ 1000000; decide)) (ne_least h1))).trans skip_s), e2, List.append_assoc]
end
theorem isi_list {h : Hm} {D : Nat} {us : List U} (hD : h[D]? = some (.lst us)) {ρ : Ev} {i : Nat} (hi : ρ[i]? = some (some (.ref D))) : mB (mIsi tabList (mVar i)) ρ h = some (.ok true h) := by
  refine b_e ?_
  unfold mIsi
  rw [var_e hi]
  simp [bnd_ok, tyK, hD, tabList]
theorem law_spec (ns : List Int) (c : Cell) (hc : c = .lst (ns.map U.int) ∨ c = .frz (ns.map U.int)) : ∃ h', m_law [.ref 0] [c] = some (.ok (.bl true) h') := by
  have hr0 : rd [c] 0 = some (ns.map U.int) := by rcases hc with rfl | rfl <;> simp [rd]
  obtain ⟨a0, b0, ha, e1⟩ := start_spec ns [c] hr0
  have e1 : m__law_start [.ref 0] [c] = some (.ok (.ref 1) [c, .lst [.int a0, .int b0, .int 1, .int 0]]) := e1
  have g1 : Good ns ([c, .lst [.int a0, .int b0, .int 1, .int 0]]) := ⟨by rw [← hr0]; simp [rd], a0, b0, 1, 0, ha, by simp⟩
  generalize ([c, .lst [.int a0, .int b0, .int 1, .int 0]] : Hm) = h1 at *
  obtain ⟨P9, p9⟩ : ∃ P : Int, (721 ≤ P ∧ ∀ ρ h', mOp oPow (mC (.int 10)) (mC (.int 9)) ρ h' = some (.ok (.int P) h')) := ⟨1000000000, by decide, fun ρ h' => by simp [ML.mSeq, ML.mSet, ML.mIf, ML.mRet, ML.mVar, ML.mC, ML.mOp, ML.mCB, ML.mCons, ML.mNil, ML.mB, ML.toB, ML.mLst, ML.mTup, ML.mSkip, ML.mSetIx, ML.mTAnd, ML.mTOr, ML.mTNot, ML.mAnd, ML.mOr, ML.mNot, ML.mIfE, ML.mIsN, ML.mBM, ML.mChain, ML.bndS, ML.mRetN, ML.mDrop, ML.mNeg, cPow]⟩
  obtain ⟨vs, V, h2, vn, vl, ris, Vl, q2, s2, e2⟩ := values_spec g1 30 (by decide) (by decide)
  obtain ⟨rs, W, h3, ro, Wl, q3, s3, e3⟩ := rows_spec ris vn (by omega) q2
  obtain ⟨rn, rl, rb, rp, rg, rv⟩ := ro.facts ris vn (by omega)
  obtain ⟨hsh, hst⟩ := RowsOf.walk ris vn ro
  obtain ⟨E3, m3⟩ := make_ok (ρ := [some (.ref 0), some (.ref 1), some (.ref V), none, none, none]) (es := (mCons (mCB m__law_rows (mCons (mVar 0) (mCons (mVar 1) (mCons (mVar 2) mNil)))) mNil)) (cons_e (cb_e (cons_e (var_e rfl) (cons_e (var_e rfl) (cons_e (var_e rfl) nil_e))) e3) nil_e) (R := .ref W) (.inl ⟨W, rfl, lst_at q3.w⟩) rb rn (by omega) (badAt_none fun k _ hk => rg k (by omega))
  rw [hsh] at m3
  obtain ⟨h4, hh4⟩ : ∃ h4, h4 = h3 ++ [mapC (RM.fin (RM.walk (atV vs) (vs.length + 1)))] ++ E3 := ⟨_, rfl⟩
  rw [← hh4] at m3
  obtain ⟨M, hM⟩ : ∃ M, M = h3.length := ⟨_, rfl⟩
  rw [← hM] at m3
  have q4 : MV h4 M V vs := ⟨by rw [hh4, hM]; exact app_at _ (by simp), by rw [hh4]; exact app_at _ (app_at _ q3.v)⟩
  -- the stretches
  obtain ⟨D, E5, e5, hD, a5⟩ := lev_call q4 vn (by omega) hst (k := 2) (by omega) (ρ := [some (.ref 0), some (.ref 1), some (.ref V), some (.ref M), none, none]) rfl (e := mC (.int 2)) c_e
  obtain ⟨h5, hh5⟩ : ∃ h5, h5 = h4 ++ E5 := ⟨_, rfl⟩
  rw [← hh5] at e5 a5
  have q5 : MV h5 M V vs := by rw [hh5]; exact q4.app _
  obtain ⟨h6, hh6⟩ : ∃ h6, h6 = h5 ++ [Cell.lst (pairsU (RM.du (atV vs) 2 0 (vs.length + 1) ([], 0)).1)] := ⟨_, rfl⟩
  have d6 := due_spec q5.v vn (by omega) (k := 2)
  rw [← hh6] at d6
  have a6 : h6[D]? = some (.lst (pairsU (RM.du (atV vs) 2 0 (vs.length + 1) ([], 0)).1)) := by rw [hh6]; exact app_at _ a5
  have b6 : h6[h5.length]? = some (.lst (pairsU (RM.du (atV vs) 2 0 (vs.length + 1) ([], 0)).1)) := by rw [hh6]; simp
  have q6 : MV h6 M V vs := by rw [hh6]; exact q5.app _
  obtain ⟨ρ5, hρ5⟩ : ∃ ρ5 : Ev, ρ5 = [some (.ref 0), some (.ref 1), some (.ref V), some (.ref M), some (.ref D), none] := ⟨_, rfl⟩
  have s5 : mIf (mTOr (mTNot (mB (mIsi tabList (mVar 4)))) (mB (mOp (oNe 3) (mVar 4) (mCB m__law_due (mCons (mVar 2) (mCons (mC (.int 2)) mNil)))))) (mRet (mC (.bl false))) mSkip ρ5 h5 = some (.nx ρ5 h6) :=
    (if_f (or_f (not_e (k := true) (isi_list a5 (by rw [hρ5]; rfl))) (tst_e (var_e (by rw [hρ5]; rfl)) (cb_e (cons_e (var_e (by rw [hρ5]; rfl)) (cons_e c_e nil_e)) d6) (ne_pairs a6 b6)))).trans skip_s
  -- the told list is changed
  obtain ⟨h7, hh7⟩ : ∃ h7, h7 = h6.set D (.lst (pairsU (RM.du (atV vs) 2 0 (vs.length + 1) ([], 0)).1 ++ [.tup [.int 0, .int 0]])) := ⟨_, rfl⟩
  have hdl : (pairsU (RM.du (atV vs) 2 0 (vs.length + 1) ([], 0)).1).length < 1000000 := by
    have : ∀ (n : Nat) (m : Int) (p : List (Int × Int) × Int), (RM.du (atV vs) 2 m n p).1.length ≤ p.1.length + n := by
      intro n
      induction n with
      | zero => intro m p; exact Nat.le_refl _
      | succ n ih =>
        intro m p
        have h1 := ih (m + 1) (RM.duS (atV vs) 2 m p)
        have h2 := duS_len (A := atV vs) (k := 2) (m := m) (p := p)
        show (RM.du (atV vs) 2 (m + 1) n (RM.duS (atV vs) 2 m p)).1.length ≤ _
        omega
    have := this (vs.length + 1) 0 ([], 0)
    simp [pairsU] at this ⊢
    omega
  have s6 : mDrop (mBM kList fAppend (mVar 4) (mCons (mTup (mCons (mC (.int 0)) (mCons (mC (.int 0)) mNil))) mNil)) ρ5 h6 = some (.nx ρ5 h7) := by
    rw [hh7]
    exact drop_s (app_l (var_e (by rw [hρ5]; rfl)) (tup_e (cons_e c_e (cons_e c_e nil_e)) (by show 2 ≤ 1000000; decide)) a6 (by show _ < 1000000; omega) (klist a6))
  have hMl := (List.getElem?_eq_some_iff.mp q4.m).1
  have hVl := (List.getElem?_eq_some_iff.mp q4.v).1
  have q7 : MV h7 M V vs := ⟨by rw [hh7, List.getElem?_set_ne (by omega)]; exact q6.m, by rw [hh7, List.getElem?_set_ne (by omega)]; exact q6.v⟩
  obtain ⟨E8, e8⟩ := lev_ne q7 vn (by omega) hst (k := 2) (by omega) (ρ := ρ5) (by rw [hρ5]; rfl) (by rw [hρ5]; rfl) (e := mC (.int 2)) (fun _ => c_e)
  obtain ⟨p9_, E9, e9⟩ := sizes_loop vn (by omega) hst (some (.ref 0)) (some (.ref 1)) (some (.ref D)) 5 2 (h7 ++ E8) none (by omega) (q7.app E8)
  obtain ⟨h9, hh9⟩ : ∃ h9, h9 = h7 ++ E8 ++ E9 := ⟨_, rfl⟩
  rw [← hh9] at e9
  have q9 : MV h9 M V vs := by rw [hh9]; exact (q7.app _).app _
  obtain ⟨ρ9, hρ9⟩ : ∃ ρ9 : Ev, ρ9 = [some (.ref 0), some (.ref 1), some (.ref V), some (.ref M), some (.ref D), p9_] := ⟨_, rfl⟩
  have s9 : mFor (iR2 (mC (.int 2)) (mC (.int 7))) (gN 5) bodyN ρ5 (h7 ++ E8) = some (.nx ρ9 h9) := for_e (it_r2 c_e c_e (by decide) (by decide) (by decide) (by decide)) (by rw [hρ5, hρ9]; exact e9)
  obtain ⟨p10, E10, e10⟩ := bad_loop (us := [.int 1, .int 0, .int (-P9), .bl true, .non]) (L := h9.length) (some (.ref 0)) (some (.ref 1)) (some (.ref D)) [.int 1, .int 0, .int (-P9), .bl true, .non] (h9 ++ [.lst [.int 1, .int 0, .int (-P9), .bl true, .non]]) p9_ (fun w hw => by
    have := p9.1
    simp only [List.mem_cons, List.not_mem_nil, or_false] at hw
    rcases hw with rfl | rfl | rfl | rfl | rfl <;> simp [Sc, numOk, hiOk] <;> omega) (q9.app _) (by simp)
  have s10 : mFor (iSeq (mLst (mCons (mC (.int 1)) (mCons (mC (.int 0)) (mCons (mNeg (mOp oPow (mC (.int 10)) (mC (.int 9)))) (mCons (mC (.bl true)) (mCons (mC .non) mNil))))))) (gN 5) bodyT ρ9 h9 = some (.nx [some (.ref 0), some (.ref 1), some (.ref V), some (.ref M), some (.ref D), p10] (h9 ++ [.lst [.int 1, .int 0, .int (-P9), .bl true, .non]] ++ E10)) :=
    for_e (it_l (us := [.int 1, .int 0, .int (-P9), .bl true, .non]) (L := h9.length) (h1 := h9 ++ [.lst [.int 1, .int 0, .int (-P9), .bl true, .non]]) (lst_e (cons_e c_e (cons_e c_e (cons_e (neg_e (p9.2 _ _)) (cons_e c_e (cons_e c_e nil_e))))) (by show 5 ≤ 1000000; decide)) (by simp)) (by rw [hρ9]; exact e10)
  refine ⟨h9 ++ [.lst [.int 1, .int 0, .int (-P9), .bl true, .non]] ++ E10, fun_r rfl ?_⟩
  · show b_law [some (.ref 0), none, none, none, none, none] [c] = _
    unfold b_law
    refine (seq_n (ρ1 := [some (.ref 0), some (.ref 1), none, none, none, none]) (set_s (cb_e (cons_e (var_e rfl) nil_e) e1))).trans ?_
    refine (seq_n (ρ1 := [some (.ref 0), some (.ref 1), some (.ref V), none, none, none]) (set_s (cb_e (cons_e (var_e rfl) (cons_e (var_e rfl) (cons_e c_e nil_e))) e2))).trans ?_
    refine (seq_n (set_s (i := 3) m3)).trans ?_
    refine (seq_n (set_s (i := 4) e5)).trans ?_
    show mSeq _ _ [some (.ref 0), some (.ref 1), some (.ref V), some (.ref M), some (.ref D), none] h5 = _
    rw [← hρ5]
    refine (seq_n s5).trans ?_
    refine (seq_n s6).trans ?_
    refine (seq_n ((if_f e8).trans skip_s)).trans ?_
    refine (seq_n s9).trans ?_
    refine (seq_n s10).trans ?_
    exact ret_s c_e
end K06

set_option maxHeartbeats 4000000
namespace K06
open PySem L2 ML
abbrev i_BadNumber : Stmt := inClass (topS 3) 0
theorem si_BadNumber : SupScope ["self", "what", "value"] ["self", "what", "value"] (defScope i_BadNumber) := ⟨rfl, rfl, rfl, by decide +kernel, rfl, by decide +kernel, by decide +kernel, by decide +kernel, by decide +kernel, by decide +kernel⟩
abbrev i_BadRows : Stmt := inClass (topS 4) 0
theorem si_BadRows : SupScope ["self", "place"] ["self", "place"] (defScope i_BadRows) := ⟨rfl, rfl, rfl, by decide +kernel, rfl, by decide +kernel, by decide +kernel, by decide +kernel, by decide +kernel, by decide +kernel⟩
theorem all_mk {P : Program} {w : World} {K : PySem.W.Frag} {h : Heap} {mg : Str → Option Value} {fa : Addr} (X : K.In h) (Gn : h.Ns mainGlobals mg) (hfa : mg "law" = some (.ref fa)) (hfile : ((P.main.file : Str) == ("/claim/cut.py" : Str)) = true) (htop : (P.main.scope.names.lookup ("super" : Str)).isSome = false)
    {C_CalendarError : Addr}
    {C_BadNumber : Addr}
    {C_BadRows : Addr}
    {nm_CalendarError qn_CalendarError : Str} {N_CalendarError : Addr} {bs_CalendarError bm_CalendarError : List Value} {sn_CalendarError : List Str} {sub_CalendarError : List Value} {ab_CalendarError : Bool} {col_CalendarError : Option Bool} {dd_CalendarError : Option Addr} {m0_CalendarError m1_CalendarError m2_CalendarError m3_CalendarError m5_CalendarError : Option Value}
    {nm_BadNumber qn_BadNumber : Str} {N_BadNumber : Addr} {bs_BadNumber : List Value} {sn_BadNumber : List Str} {sub_BadNumber : List Value} {ab_BadNumber : Bool} {col_BadNumber : Option Bool} {dd_BadNumber : Option Addr} {m0_BadNumber m1_BadNumber m2_BadNumber m3_BadNumber m5_BadNumber : Option Value}
    {nm_BadRows qn_BadRows : Str} {N_BadRows : Addr} {bs_BadRows : List Value} {sn_BadRows : List Str} {sub_BadRows : List Value} {ab_BadRows : Bool} {col_BadRows : Option Bool} {dd_BadRows : Option Addr} {m0_BadRows m1_BadRows m2_BadRows m3_BadRows m5_BadRows : Option Value}
    {fI_BadNumber cc_BadNumber cda_BadNumber : Addr} {oc_BadNumber kV_BadNumber dc_BadNumber pm_BadNumber ct_BadNumber : Value} {od_BadNumber an_BadNumber : Option Addr} {sl_BadNumber : Array (Option Value)} {ccl_BadNumber : Value} {cdd_BadNumber : Option Addr} {vs_BadNumber : Array Value} {ccs_BadNumber : Array (Option Value)} {tf_BadNumber : Tok} {cl2_BadNumber : Value} {cld_BadNumber : Option Addr} {csl_BadNumber : Array (Option Value)}
    {fI_BadRows cc_BadRows cda_BadRows : Addr} {oc_BadRows kV_BadRows dc_BadRows pm_BadRows ct_BadRows : Value} {od_BadRows an_BadRows : Option Addr} {sl_BadRows : Array (Option Value)} {ccl_BadRows : Value} {cdd_BadRows : Option Addr} {vs_BadRows : Array Value} {ccs_BadRows : Array (Option Value)} {tf_BadRows : Tok} {cl2_BadRows : Value} {cld_BadRows : Option Addr} {csl_BadRows : Array (Option Value)}
    {C_Rising : Addr}
    {f_Rising___init__ : Addr} {od_Rising___init__ an_Rising___init__ : Option Addr} {sl_Rising___init__ : Array (Option Value)} {oc_Rising___init__ kV_Rising___init__ dc_Rising___init__ pm_Rising___init__ cd_Rising___init__ ct_Rising___init__ : Value}
    {f_Rising_levels : Addr} {od_Rising_levels an_Rising_levels : Option Addr} {sl_Rising_levels : Array (Option Value)} {oc_Rising_levels dc_Rising_levels pm_Rising_levels cd_Rising_levels ct_Rising_levels : Value}
    {kd_Rising_levels : Addr} {tn_Rising_levels : Tok}
    {f_is_integer : Addr} {od_is_integer an_is_integer : Option Addr} {sl_is_integer : Array (Option Value)} {oc_is_integer kV_is_integer dc_is_integer pm_is_integer cd_is_integer ct_is_integer : Value}
    {f_check_integer : Addr} {od_check_integer an_check_integer : Option Addr} {sl_check_integer : Array (Option Value)} {oc_check_integer kV_check_integer dc_check_integer pm_check_integer cd_check_integer ct_check_integer : Value}
    {f_check_number : Addr} {od_check_number an_check_number : Option Addr} {sl_check_number : Array (Option Value)} {oc_check_number kV_check_number dc_check_number pm_check_number cd_check_number ct_check_number : Value}
    {f_lesser : Addr} {od_lesser an_lesser : Option Addr} {sl_lesser : Array (Option Value)} {oc_lesser kV_lesser dc_lesser pm_lesser cd_lesser ct_lesser : Value}
    {f_greater : Addr} {od_greater an_greater : Option Addr} {sl_greater : Array (Option Value)} {oc_greater kV_greater dc_greater pm_greater cd_greater ct_greater : Value}
    {f_row_value : Addr} {od_row_value an_row_value : Option Addr} {sl_row_value : Array (Option Value)} {oc_row_value kV_row_value dc_row_value pm_row_value cd_row_value ct_row_value : Value}
    {f_start_of : Addr} {od_start_of an_start_of : Option Addr} {sl_start_of : Array (Option Value)} {oc_start_of kV_start_of dc_start_of pm_start_of cd_start_of ct_start_of : Value}
    {f_follows : Addr} {od_follows an_follows : Option Addr} {sl_follows : Array (Option Value)} {oc_follows kV_follows dc_follows pm_follows cd_follows ct_follows : Value}
    {f_is_good_row : Addr} {od_is_good_row an_is_good_row : Option Addr} {sl_is_good_row : Array (Option Value)} {oc_is_good_row kV_is_good_row dc_is_good_row pm_is_good_row cd_is_good_row ct_is_good_row : Value}
    {f_check_rows : Addr} {od_check_rows an_check_rows : Option Addr} {sl_check_rows : Array (Option Value)} {oc_check_rows kV_check_rows dc_check_rows pm_check_rows cd_check_rows ct_check_rows : Value}
    {f_shortest : Addr} {od_shortest an_shortest : Option Addr} {sl_shortest : Array (Option Value)} {oc_shortest kV_shortest dc_shortest pm_shortest cd_shortest ct_shortest : Value}
    {f_stretches : Addr} {od_stretches an_stretches : Option Addr} {sl_stretches : Array (Option Value)} {oc_stretches kV_stretches dc_stretches pm_stretches cd_stretches ct_stretches : Value}
    {f__law_start : Addr} {od__law_start an__law_start : Option Addr} {sl__law_start : Array (Option Value)} {oc__law_start kV__law_start dc__law_start pm__law_start cd__law_start ct__law_start : Value}
    {f__law_draw : Addr} {od__law_draw an__law_draw : Option Addr} {sl__law_draw : Array (Option Value)} {oc__law_draw kV__law_draw dc__law_draw pm__law_draw cd__law_draw ct__law_draw : Value}
    {f__law_values : Addr} {od__law_values an__law_values : Option Addr} {sl__law_values : Array (Option Value)} {oc__law_values kV__law_values dc__law_values pm__law_values cd__law_values ct__law_values : Value}
    {f__law_at : Addr} {od__law_at an__law_at : Option Addr} {sl__law_at : Array (Option Value)} {oc__law_at kV__law_at dc__law_at pm__law_at cd__law_at ct__law_at : Value}
    {f__law_rows : Addr} {od__law_rows an__law_rows : Option Addr} {sl__law_rows : Array (Option Value)} {oc__law_rows kV__law_rows dc__law_rows pm__law_rows cd__law_rows ct__law_rows : Value}
    {f__law_due : Addr} {od__law_due an__law_due : Option Addr} {sl__law_due : Array (Option Value)} {oc__law_due kV__law_due dc__law_due pm__law_due cd__law_due ct__law_due : Value}
    {f__law_told : Addr} {od__law_told an__law_told : Option Addr} {sl__law_told : Array (Option Value)} {oc__law_told kV__law_told dc__law_told pm__law_told cd__law_told ct__law_told : Value}
    {f_law : Addr} {od_law an_law : Option Addr} {sl_law : Array (Option Value)} {oc_law kV_law dc_law pm_law cd_law ct_law : Value}
    (z_abs : PySem.W.nsIn K mainGlobals "abs" = some none)
    (z_bool : PySem.W.nsIn K mainGlobals "bool" = some none)
    (z_enumerate : PySem.W.nsIn K mainGlobals "enumerate" = some none)
    (z_int : PySem.W.nsIn K mainGlobals "int" = some none)
    (z_isinstance : PySem.W.nsIn K mainGlobals "isinstance" = some none)
    (z_len : PySem.W.nsIn K mainGlobals "len" = some none)
    (z_list : PySem.W.nsIn K mainGlobals "list" = some none)
    (z_max : PySem.W.nsIn K mainGlobals "max" = some none)
    (z_range : PySem.W.nsIn K mainGlobals "range" = some none)
    (z_tuple : PySem.W.nsIn K mainGlobals "tuple" = some none)
    (z_super : PySem.W.nsIn K mainGlobals "super" = some none)
    (z_tp : PySem.W.nsIn K cStatics "thirdparty.any" = some none)
    (x_hn : PySem.W.specialIn K (.builtin "object.__class__") "__get__" = some (some (.builtin "getset_descriptor.__get__")))
    (x_ht : PySem.W.takesIn K (.builtin "object.__class__") = some true)
    (aC_CalendarError : PySem.W.nsIn K mainGlobals "CalendarError" = some (some (.ref C_CalendarError)))
    (aC_BadNumber : PySem.W.nsIn K mainGlobals "BadNumber" = some (some (.ref C_BadNumber)))
    (aC_BadRows : PySem.W.nsIn K mainGlobals "BadRows" = some (some (.ref C_BadRows)))
    (xL_CalendarError : K.lookup C_CalendarError = some (excClassObj nm_CalendarError qn_CalendarError C_CalendarError N_CalendarError bs_CalendarError bm_CalendarError true sn_CalendarError sub_CalendarError ab_CalendarError col_CalendarError dd_CalendarError m0_CalendarError m1_CalendarError m2_CalendarError m3_CalendarError m5_CalendarError "ValueError.__new__"))
    (eC_CalendarError : PySem.W.subIn K (.ref C_CalendarError) (.type "BaseException") = some true)
    (tC_CalendarError : PySem.W.typeIn K (.ref C_CalendarError) = some (.type "type"))
    (cl_CalendarError : PySem.W.isClsIn K C_CalendarError = true)
    (mr_CalendarError : PySem.W.mroIn K C_CalendarError (.ref C_CalendarError) = some true)
    (sb_CalendarError_BadNumber : PySem.W.subIn K (.ref C_BadNumber) (.ref C_CalendarError) = some true)
    (sb_CalendarError_BadRows : PySem.W.subIn K (.ref C_BadRows) (.ref C_CalendarError) = some true)
    (xL_BadNumber : K.lookup C_BadNumber = some (excClassObj nm_BadNumber qn_BadNumber C_BadNumber N_BadNumber bs_BadNumber (.ref C_CalendarError :: bm_CalendarError) true sn_BadNumber sub_BadNumber ab_BadNumber col_BadNumber dd_BadNumber m0_BadNumber m1_BadNumber m2_BadNumber m3_BadNumber m5_BadNumber "ValueError.__new__"))
    (eC_BadNumber : PySem.W.subIn K (.ref C_BadNumber) (.type "BaseException") = some true)
    (tC_BadNumber : PySem.W.typeIn K (.ref C_BadNumber) = some (.type "type"))
    (cl_BadNumber : PySem.W.isClsIn K C_BadNumber = true)
    (mr_BadNumber : PySem.W.mroIn K C_BadNumber (.ref C_BadNumber) = some true)
    (sb_BadNumber_BadNumber : PySem.W.subIn K (.ref C_BadNumber) (.ref C_BadNumber) = some true)
    (sb_BadNumber_BadRows : PySem.W.subIn K (.ref C_BadRows) (.ref C_BadNumber) = some false)
    (xL_BadRows : K.lookup C_BadRows = some (excClassObj nm_BadRows qn_BadRows C_BadRows N_BadRows bs_BadRows (.ref C_CalendarError :: bm_CalendarError) true sn_BadRows sub_BadRows ab_BadRows col_BadRows dd_BadRows m0_BadRows m1_BadRows m2_BadRows m3_BadRows m5_BadRows "ValueError.__new__"))
    (eC_BadRows : PySem.W.subIn K (.ref C_BadRows) (.type "BaseException") = some true)
    (tC_BadRows : PySem.W.typeIn K (.ref C_BadRows) = some (.type "type"))
    (cl_BadRows : PySem.W.isClsIn K C_BadRows = true)
    (mr_BadRows : PySem.W.mroIn K C_BadRows (.ref C_BadRows) = some true)
    (sb_BadRows_BadNumber : PySem.W.subIn K (.ref C_BadNumber) (.ref C_BadRows) = some false)
    (sb_BadRows_BadRows : PySem.W.subIn K (.ref C_BadRows) (.ref C_BadRows) = some true)
    (fi_CalendarError : PySem.W.findIn K (.ref C_CalendarError) "__init__" = some (some (.builtin "ValueError.__init__")))
    (rb_BadNumber : HandSPX.refsVE (.ref C_CalendarError :: bm_CalendarError) = true)
    (sa_BadNumber : PySem.W.findIn K (.ref C_BadNumber) "__setattr__" = some (some (.builtin "object.__setattr__")))
    (kC_BadNumber : PySem.W.keepIn K (.ref C_BadNumber) = true)
    (ga_BadNumber : PySem.W.findIn K (.ref C_BadNumber) "__getattribute__" = some (some (.builtin "BaseException.__getattribute__")))
    (gg_BadNumber : PySem.W.findIn K (.ref C_BadNumber) "__getattr__" = some none)
    (hd_BadNumber : PySem.W.hasDictIn K C_BadNumber = true)
    (ha_BadNumber : PySem.W.findIn K (.ref C_BadNumber) "__class__" = some (some (.builtin "object.__class__")))
    (hm_BadNumber : PySem.W.mroIn K C_BadNumber (.type "object") = some true)
    (sv_BadNumber : PySem.W.subIn K (.ref C_BadNumber) (.type "ValueError") = some true)
    (nf_BadNumber_what : PySem.W.findIn K (.ref C_BadNumber) "what" = some none)
    (nf_BadNumber_value : PySem.W.findIn K (.ref C_BadNumber) "value" = some none)
    (rb_BadRows : HandSPX.refsVE (.ref C_CalendarError :: bm_CalendarError) = true)
    (sa_BadRows : PySem.W.findIn K (.ref C_BadRows) "__setattr__" = some (some (.builtin "object.__setattr__")))
    (kC_BadRows : PySem.W.keepIn K (.ref C_BadRows) = true)
    (ga_BadRows : PySem.W.findIn K (.ref C_BadRows) "__getattribute__" = some (some (.builtin "BaseException.__getattribute__")))
    (gg_BadRows : PySem.W.findIn K (.ref C_BadRows) "__getattr__" = some none)
    (hd_BadRows : PySem.W.hasDictIn K C_BadRows = true)
    (ha_BadRows : PySem.W.findIn K (.ref C_BadRows) "__class__" = some (some (.builtin "object.__class__")))
    (hm_BadRows : PySem.W.mroIn K C_BadRows (.type "object") = some true)
    (sv_BadRows : PySem.W.subIn K (.ref C_BadRows) (.type "ValueError") = some true)
    (nf_BadRows_place : PySem.W.findIn K (.ref C_BadRows) "place" = some none)
    (iC_BadNumber : PySem.W.findIn K (.ref C_BadNumber) "__init__" = some (some (.ref fI_BadNumber)))
    (tI_BadNumber : PySem.W.typeIn K (.ref fI_BadNumber) = some (.type "function"))
    (lI_BadNumber : K.lookup fI_BadNumber = some ⟨oc_BadNumber, od_BadNumber, .func (PySem.W.ksFn "__init__" "BadNumber.__init__" (defArgs i_BadNumber) (defBody i_BadNumber) (defScope i_BadNumber) .none kV_BadNumber dc_BadNumber pm_BadNumber an_BadNumber (.ref cda_BadNumber) ct_BadNumber cc_BadNumber), sl_BadNumber⟩)
    (lC_BadNumber : K.lookup cda_BadNumber = some ⟨ccl_BadNumber, cdd_BadNumber, .fields vs_BadNumber, ccs_BadNumber⟩)
    (vC_BadNumber : vs_BadNumber[2]? = some (.str "/claim/cut.py" tf_BadNumber))
    (cQ_BadNumber : PySem.W.codeIn K (.ref cda_BadNumber) "BadNumber.__init__" = true)
    (ce_BadNumber : K.lookup cc_BadNumber = some ⟨cl2_BadNumber, cld_BadNumber, .cell (some (.ref C_BadNumber)), csl_BadNumber⟩)
    (iC_BadRows : PySem.W.findIn K (.ref C_BadRows) "__init__" = some (some (.ref fI_BadRows)))
    (tI_BadRows : PySem.W.typeIn K (.ref fI_BadRows) = some (.type "function"))
    (lI_BadRows : K.lookup fI_BadRows = some ⟨oc_BadRows, od_BadRows, .func (PySem.W.ksFn "__init__" "BadRows.__init__" (defArgs i_BadRows) (defBody i_BadRows) (defScope i_BadRows) .none kV_BadRows dc_BadRows pm_BadRows an_BadRows (.ref cda_BadRows) ct_BadRows cc_BadRows), sl_BadRows⟩)
    (lC_BadRows : K.lookup cda_BadRows = some ⟨ccl_BadRows, cdd_BadRows, .fields vs_BadRows, ccs_BadRows⟩)
    (vC_BadRows : vs_BadRows[2]? = some (.str "/claim/cut.py" tf_BadRows))
    (cQ_BadRows : PySem.W.codeIn K (.ref cda_BadRows) "BadRows.__init__" = true)
    (ce_BadRows : K.lookup cc_BadRows = some ⟨cl2_BadRows, cld_BadRows, .cell (some (.ref C_BadRows)), csl_BadRows⟩)
    (aC_Rising : PySem.W.nsIn K mainGlobals "Rising" = some (some (.ref C_Rising)))
    (pg_Rising : PySem.W.plainGet K C_Rising Str.empty = true)
    (hdI_Rising : PySem.W.hasDictIn K C_Rising = true)
    (po_Rising : PySem.W.plainOver K C_Rising = true)
    (saI_Rising : PySem.W.findIn K (.ref C_Rising) "__setattr__" = some (some (.builtin "object.__setattr__")))
    (mkI_Rising : PySem.W.makesIn K C_Rising = true)
    (kcI_Rising : PySem.W.keepIn K (.ref C_Rising) = true)
    (haI_Rising : PySem.W.findIn K (.ref C_Rising) "__class__" = some (some (.builtin "object.__class__")))
    (hmI_Rising : PySem.W.mroIn K C_Rising (.type "object") = some true)
    (nI_Rising_rows : PySem.W.findIn K (.ref C_Rising) "rows" = some none)
    (a_Rising___init__ : PySem.W.findIn K (.ref C_Rising) "__init__" = some (some (.ref f_Rising___init__)))
    (i_Rising___init__ : PySem.W.isFn K (.ref f_Rising___init__) = true)
    (l_Rising___init__ : K.lookup f_Rising___init__ = some ⟨oc_Rising___init__, od_Rising___init__, .func (PySem.W.fnOf "__init__" "Rising.__init__" (defArgs t_Rising___init__) (defBody t_Rising___init__) (defScope t_Rising___init__) .none kV_Rising___init__ dc_Rising___init__ pm_Rising___init__ an_Rising___init__ cd_Rising___init__ ct_Rising___init__), sl_Rising___init__⟩)
    (c_Rising___init__ : PySem.W.codeIn K cd_Rising___init__ "Rising.__init__" = true)
    (k_Rising___init__ : PySem.W.keepIn K (.ref f_Rising___init__) = true)
    (a_Rising_levels : PySem.W.findIn K (.ref C_Rising) "levels" = some (some (.ref f_Rising_levels)))
    (i_Rising_levels : PySem.W.isFn K (.ref f_Rising_levels) = true)
    (l_Rising_levels : K.lookup f_Rising_levels = some ⟨oc_Rising_levels, od_Rising_levels, .func (PySem.W.fnOf "levels" "Rising.levels" (defArgs t_Rising_levels) (defBody t_Rising_levels) (defScope t_Rising_levels) .none (.ref kd_Rising_levels) dc_Rising_levels pm_Rising_levels an_Rising_levels cd_Rising_levels ct_Rising_levels), sl_Rising_levels⟩)
    (n_Rising_levels : PySem.W.nsIn K kd_Rising_levels "least" = some (some (.int 2 tn_Rising_levels)))
    (c_Rising_levels : PySem.W.codeIn K cd_Rising_levels "Rising.levels" = true)
    (k_Rising_levels : PySem.W.keepIn K (.ref f_Rising_levels) = true)
    (a_is_integer : PySem.W.nsIn K mainGlobals "is_integer" = some (some (.ref f_is_integer)))
    (l_is_integer : K.lookup f_is_integer = some ⟨oc_is_integer, od_is_integer, .func (PySem.W.fnOf "is_integer" "is_integer" (defArgs t_is_integer) (defBody t_is_integer) (defScope t_is_integer) .none kV_is_integer dc_is_integer pm_is_integer an_is_integer cd_is_integer ct_is_integer), sl_is_integer⟩)
    (c_is_integer : PySem.W.codeIn K cd_is_integer "is_integer" = true)
    (k_is_integer : PySem.W.keepIn K (.ref f_is_integer) = true)
    (a_check_integer : PySem.W.nsIn K mainGlobals "check_integer" = some (some (.ref f_check_integer)))
    (l_check_integer : K.lookup f_check_integer = some ⟨oc_check_integer, od_check_integer, .func (PySem.W.fnOf "check_integer" "check_integer" (defArgs t_check_integer) (defBody t_check_integer) (defScope t_check_integer) .none kV_check_integer dc_check_integer pm_check_integer an_check_integer cd_check_integer ct_check_integer), sl_check_integer⟩)
    (c_check_integer : PySem.W.codeIn K cd_check_integer "check_integer" = true)
    (k_check_integer : PySem.W.keepIn K (.ref f_check_integer) = true)
    (a_check_number : PySem.W.nsIn K mainGlobals "check_number" = some (some (.ref f_check_number)))
    (l_check_number : K.lookup f_check_number = some ⟨oc_check_number, od_check_number, .func (PySem.W.fnOf "check_number" "check_number" (defArgs t_check_number) (defBody t_check_number) (defScope t_check_number) .none kV_check_number dc_check_number pm_check_number an_check_number cd_check_number ct_check_number), sl_check_number⟩)
    (c_check_number : PySem.W.codeIn K cd_check_number "check_number" = true)
    (k_check_number : PySem.W.keepIn K (.ref f_check_number) = true)
    (a_lesser : PySem.W.nsIn K mainGlobals "lesser" = some (some (.ref f_lesser)))
    (l_lesser : K.lookup f_lesser = some ⟨oc_lesser, od_lesser, .func (PySem.W.fnOf "lesser" "lesser" (defArgs t_lesser) (defBody t_lesser) (defScope t_lesser) .none kV_lesser dc_lesser pm_lesser an_lesser cd_lesser ct_lesser), sl_lesser⟩)
    (c_lesser : PySem.W.codeIn K cd_lesser "lesser" = true)
    (k_lesser : PySem.W.keepIn K (.ref f_lesser) = true)
    (a_greater : PySem.W.nsIn K mainGlobals "greater" = some (some (.ref f_greater)))
    (l_greater : K.lookup f_greater = some ⟨oc_greater, od_greater, .func (PySem.W.fnOf "greater" "greater" (defArgs t_greater) (defBody t_greater) (defScope t_greater) .none kV_greater dc_greater pm_greater an_greater cd_greater ct_greater), sl_greater⟩)
    (c_greater : PySem.W.codeIn K cd_greater "greater" = true)
    (k_greater : PySem.W.keepIn K (.ref f_greater) = true)
    (a_row_value : PySem.W.nsIn K mainGlobals "row_value" = some (some (.ref f_row_value)))
    (l_row_value : K.lookup f_row_value = some ⟨oc_row_value, od_row_value, .func (PySem.W.fnOf "row_value" "row_value" (defArgs t_row_value) (defBody t_row_value) (defScope t_row_value) .none kV_row_value dc_row_value pm_row_value an_row_value cd_row_value ct_row_value), sl_row_value⟩)
    (c_row_value : PySem.W.codeIn K cd_row_value "row_value" = true)
    (k_row_value : PySem.W.keepIn K (.ref f_row_value) = true)
    (a_start_of : PySem.W.nsIn K mainGlobals "start_of" = some (some (.ref f_start_of)))
    (l_start_of : K.lookup f_start_of = some ⟨oc_start_of, od_start_of, .func (PySem.W.fnOf "start_of" "start_of" (defArgs t_start_of) (defBody t_start_of) (defScope t_start_of) .none kV_start_of dc_start_of pm_start_of an_start_of cd_start_of ct_start_of), sl_start_of⟩)
    (c_start_of : PySem.W.codeIn K cd_start_of "start_of" = true)
    (k_start_of : PySem.W.keepIn K (.ref f_start_of) = true)
    (a_follows : PySem.W.nsIn K mainGlobals "follows" = some (some (.ref f_follows)))
    (l_follows : K.lookup f_follows = some ⟨oc_follows, od_follows, .func (PySem.W.fnOf "follows" "follows" (defArgs t_follows) (defBody t_follows) (defScope t_follows) .none kV_follows dc_follows pm_follows an_follows cd_follows ct_follows), sl_follows⟩)
    (c_follows : PySem.W.codeIn K cd_follows "follows" = true)
    (k_follows : PySem.W.keepIn K (.ref f_follows) = true)
    (a_is_good_row : PySem.W.nsIn K mainGlobals "is_good_row" = some (some (.ref f_is_good_row)))
    (l_is_good_row : K.lookup f_is_good_row = some ⟨oc_is_good_row, od_is_good_row, .func (PySem.W.fnOf "is_good_row" "is_good_row" (defArgs t_is_good_row) (defBody t_is_good_row) (defScope t_is_good_row) .none kV_is_good_row dc_is_good_row pm_is_good_row an_is_good_row cd_is_good_row ct_is_good_row), sl_is_good_row⟩)
    (c_is_good_row : PySem.W.codeIn K cd_is_good_row "is_good_row" = true)
    (k_is_good_row : PySem.W.keepIn K (.ref f_is_good_row) = true)
    (a_check_rows : PySem.W.nsIn K mainGlobals "check_rows" = some (some (.ref f_check_rows)))
    (l_check_rows : K.lookup f_check_rows = some ⟨oc_check_rows, od_check_rows, .func (PySem.W.fnOf "check_rows" "check_rows" (defArgs t_check_rows) (defBody t_check_rows) (defScope t_check_rows) .none kV_check_rows dc_check_rows pm_check_rows an_check_rows cd_check_rows ct_check_rows), sl_check_rows⟩)
    (c_check_rows : PySem.W.codeIn K cd_check_rows "check_rows" = true)
    (k_check_rows : PySem.W.keepIn K (.ref f_check_rows) = true)
    (a_shortest : PySem.W.nsIn K mainGlobals "shortest" = some (some (.ref f_shortest)))
    (l_shortest : K.lookup f_shortest = some ⟨oc_shortest, od_shortest, .func (PySem.W.fnOf "shortest" "shortest" (defArgs t_shortest) (defBody t_shortest) (defScope t_shortest) .none kV_shortest dc_shortest pm_shortest an_shortest cd_shortest ct_shortest), sl_shortest⟩)
    (c_shortest : PySem.W.codeIn K cd_shortest "shortest" = true)
    (k_shortest : PySem.W.keepIn K (.ref f_shortest) = true)
    (a_stretches : PySem.W.nsIn K mainGlobals "stretches" = some (some (.ref f_stretches)))
    (l_stretches : K.lookup f_stretches = some ⟨oc_stretches, od_stretches, .func (PySem.W.fnOf "stretches" "stretches" (defArgs t_stretches) (defBody t_stretches) (defScope t_stretches) .none kV_stretches dc_stretches pm_stretches an_stretches cd_stretches ct_stretches), sl_stretches⟩)
    (c_stretches : PySem.W.codeIn K cd_stretches "stretches" = true)
    (k_stretches : PySem.W.keepIn K (.ref f_stretches) = true)
    (a__law_start : PySem.W.nsIn K mainGlobals "_law_start" = some (some (.ref f__law_start)))
    (l__law_start : K.lookup f__law_start = some ⟨oc__law_start, od__law_start, .func (PySem.W.fnOf "_law_start" "_law_start" (defArgs t__law_start) (defBody t__law_start) (defScope t__law_start) .none kV__law_start dc__law_start pm__law_start an__law_start cd__law_start ct__law_start), sl__law_start⟩)
    (c__law_start : PySem.W.codeIn K cd__law_start "_law_start" = true)
    (k__law_start : PySem.W.keepIn K (.ref f__law_start) = true)
    (a__law_draw : PySem.W.nsIn K mainGlobals "_law_draw" = some (some (.ref f__law_draw)))
    (l__law_draw : K.lookup f__law_draw = some ⟨oc__law_draw, od__law_draw, .func (PySem.W.fnOf "_law_draw" "_law_draw" (defArgs t__law_draw) (defBody t__law_draw) (defScope t__law_draw) .none kV__law_draw dc__law_draw pm__law_draw an__law_draw cd__law_draw ct__law_draw), sl__law_draw⟩)
    (c__law_draw : PySem.W.codeIn K cd__law_draw "_law_draw" = true)
    (k__law_draw : PySem.W.keepIn K (.ref f__law_draw) = true)
    (a__law_values : PySem.W.nsIn K mainGlobals "_law_values" = some (some (.ref f__law_values)))
    (l__law_values : K.lookup f__law_values = some ⟨oc__law_values, od__law_values, .func (PySem.W.fnOf "_law_values" "_law_values" (defArgs t__law_values) (defBody t__law_values) (defScope t__law_values) .none kV__law_values dc__law_values pm__law_values an__law_values cd__law_values ct__law_values), sl__law_values⟩)
    (c__law_values : PySem.W.codeIn K cd__law_values "_law_values" = true)
    (k__law_values : PySem.W.keepIn K (.ref f__law_values) = true)
    (a__law_at : PySem.W.nsIn K mainGlobals "_law_at" = some (some (.ref f__law_at)))
    (l__law_at : K.lookup f__law_at = some ⟨oc__law_at, od__law_at, .func (PySem.W.fnOf "_law_at" "_law_at" (defArgs t__law_at) (defBody t__law_at) (defScope t__law_at) .none kV__law_at dc__law_at pm__law_at an__law_at cd__law_at ct__law_at), sl__law_at⟩)
    (c__law_at : PySem.W.codeIn K cd__law_at "_law_at" = true)
    (k__law_at : PySem.W.keepIn K (.ref f__law_at) = true)
    (a__law_rows : PySem.W.nsIn K mainGlobals "_law_rows" = some (some (.ref f__law_rows)))
    (l__law_rows : K.lookup f__law_rows = some ⟨oc__law_rows, od__law_rows, .func (PySem.W.fnOf "_law_rows" "_law_rows" (defArgs t__law_rows) (defBody t__law_rows) (defScope t__law_rows) .none kV__law_rows dc__law_rows pm__law_rows an__law_rows cd__law_rows ct__law_rows), sl__law_rows⟩)
    (c__law_rows : PySem.W.codeIn K cd__law_rows "_law_rows" = true)
    (k__law_rows : PySem.W.keepIn K (.ref f__law_rows) = true)
    (a__law_due : PySem.W.nsIn K mainGlobals "_law_due" = some (some (.ref f__law_due)))
    (l__law_due : K.lookup f__law_due = some ⟨oc__law_due, od__law_due, .func (PySem.W.fnOf "_law_due" "_law_due" (defArgs t__law_due) (defBody t__law_due) (defScope t__law_due) .none kV__law_due dc__law_due pm__law_due an__law_due cd__law_due ct__law_due), sl__law_due⟩)
    (c__law_due : PySem.W.codeIn K cd__law_due "_law_due" = true)
    (k__law_due : PySem.W.keepIn K (.ref f__law_due) = true)
    (a__law_told : PySem.W.nsIn K mainGlobals "_law_told" = some (some (.ref f__law_told)))
    (l__law_told : K.lookup f__law_told = some ⟨oc__law_told, od__law_told, .func (PySem.W.fnOf "_law_told" "_law_told" (defArgs t__law_told) (defBody t__law_told) (defScope t__law_told) .none kV__law_told dc__law_told pm__law_told an__law_told cd__law_told ct__law_told), sl__law_told⟩)
    (c__law_told : PySem.W.codeIn K cd__law_told "_law_told" = true)
    (k__law_told : PySem.W.keepIn K (.ref f__law_told) = true)
    (a_law : PySem.W.nsIn K mainGlobals "law" = some (some (.ref f_law)))
    (l_law : K.lookup f_law = some ⟨oc_law, od_law, .func (PySem.W.fnOf "law" "law" (defArgs t_law) (defBody t_law) (defScope t_law) .none kV_law dc_law pm_law an_law cd_law ct_law), sl_law⟩)
    (c_law : PySem.W.codeIn K cd_law "law" = true)
    (k_law : PySem.W.keepIn K (.ref f_law) = true) :
    ∃ fd : FuncData, (∀ (s : Shared) (v : Value), BindsTo s fd ⟨[v], []⟩ [("_law_script", v)]) ∧ ∀ base : Heap, K.In base → base.Ns mainGlobals mg → FnOk P w K mg base (L2.CX P w) 7 fa fd ["_law_script"] (spLaw K) := by
  have e0 := hfa.symm.trans (PySem.W.mg_of X Gn a_law)
  cases e0
  have ox_BadNumber : OexC K C_BadNumber := ⟨⟨_, _, _, _, _, _, _, _, _, _, _, _, _, _, _, xL_BadNumber, rb_BadNumber⟩, sa_BadNumber, eC_BadNumber, tC_BadNumber, kC_BadNumber⟩
  have st_BadNumber : SupTxt K mg C_BadNumber fI_BadNumber cc_BadNumber cda_BadNumber "BadNumber.__init__" := ⟨ox_BadNumber, iC_BadNumber, tI_BadNumber, ⟨_, _, _, _, _, lC_BadNumber, vC_BadNumber⟩, cQ_BadNumber, ⟨_, _, _, ce_BadNumber⟩, sup_of xL_BadNumber xL_CalendarError fi_CalendarError, sv_BadNumber, mr_BadNumber, z_tp, PySem.W.mg_none_of X Gn z_super⟩
  have ox_BadRows : OexC K C_BadRows := ⟨⟨_, _, _, _, _, _, _, _, _, _, _, _, _, _, _, xL_BadRows, rb_BadRows⟩, sa_BadRows, eC_BadRows, tC_BadRows, kC_BadRows⟩
  have st_BadRows : SupTxt K mg C_BadRows fI_BadRows cc_BadRows cda_BadRows "BadRows.__init__" := ⟨ox_BadRows, iC_BadRows, tI_BadRows, ⟨_, _, _, _, _, lC_BadRows, vC_BadRows⟩, cQ_BadRows, ⟨_, _, _, ce_BadRows⟩, sup_of xL_BadRows xL_CalendarError fi_CalendarError, sv_BadRows, mr_BadRows, z_tp, PySem.W.mg_none_of X Gn z_super⟩
  have ek_BadNumber : ExcK K C_BadNumber := ⟨cls_of cl_BadNumber, ga_BadNumber, gg_BadNumber, eC_BadNumber, hd_BadNumber, ha_BadNumber, x_hn, x_ht, hm_BadNumber⟩
  have ek_BadRows : ExcK K C_BadRows := ⟨cls_of cl_BadRows, ga_BadRows, gg_BadRows, eC_BadRows, hd_BadRows, ha_BadRows, x_hn, x_ht, hm_BadRows⟩
  have clI_Rising : Cls K C_Rising := ⟨pg_Rising, hdI_Rising, po_Rising, saI_Rising⟩
  let G : Gm := ⟨K, fun c => match c with | 0 => C_CalendarError | 1 => C_BadNumber | 2 => C_BadRows | _ => C_Rising⟩
  have fx_b_abs : mg "abs" = none := PySem.W.mg_none_of X Gn z_abs
  have fx_b_bool : mg "bool" = none := PySem.W.mg_none_of X Gn z_bool
  have fx_b_enumerate : mg "enumerate" = none := PySem.W.mg_none_of X Gn z_enumerate
  have fx_b_int : mg "int" = none := PySem.W.mg_none_of X Gn z_int
  have fx_b_isinstance : mg "isinstance" = none := PySem.W.mg_none_of X Gn z_isinstance
  have fx_b_len : mg "len" = none := PySem.W.mg_none_of X Gn z_len
  have fx_b_list : mg "list" = none := PySem.W.mg_none_of X Gn z_list
  have fx_b_max : mg "max" = none := PySem.W.mg_none_of X Gn z_max
  have fx_b_range : mg "range" = none := PySem.W.mg_none_of X Gn z_range
  have fx_b_tuple : mg "tuple" = none := PySem.W.mg_none_of X Gn z_tuple
  have fx_a_rows : AtX G "rows" at_rows_i at_rows_e := atXI (atI1 (a := 3) ⟨clI_Rising, nI_Rising_rows⟩) atx0
  have fx_a_value : AtX G "value" at_value_i at_value_e := (atx1 (a := 1) ⟨ek_BadNumber, nf_BadNumber_value⟩)
  have fx_a_what : AtX G "what" at_what_i at_what_e := (atx1 (a := 1) ⟨ek_BadNumber, nf_BadNumber_what⟩)
  have fx_s_rows : AtC G "rows" at_rows_i := atI1 (a := 3) ⟨clI_Rising, nI_Rising_rows⟩
  have fx_t_CalendarError : TakC G tk_CalendarError (.ref (G.ca 0)) := (tak_cons (a := 1) (exm_of eC_CalendarError cl_CalendarError tC_CalendarError sb_CalendarError_BadNumber) (tak_cons (a := 2) (exm_of eC_CalendarError cl_CalendarError tC_CalendarError sb_CalendarError_BadRows) tak_nil))
  have fx_g_CalendarError : mg "CalendarError" = some (.ref (G.ca 0)) := PySem.W.mg_of X Gn aC_CalendarError
  have fx_t_BadNumber : TakC G tk_BadNumber (.ref (G.ca 1)) := (tak_cons (a := 1) (exm_of eC_BadNumber cl_BadNumber tC_BadNumber sb_BadNumber_BadNumber) (tak_cons (a := 2) (exm_of eC_BadNumber cl_BadNumber tC_BadNumber sb_BadNumber_BadRows) tak_nil))
  have fx_g_BadNumber : mg "BadNumber" = some (.ref (G.ca 1)) := PySem.W.mg_of X Gn aC_BadNumber
  have fx_t_BadRows : TakC G tk_BadRows (.ref (G.ca 2)) := (tak_cons (a := 1) (exm_of eC_BadRows cl_BadRows tC_BadRows sb_BadRows_BadNumber) (tak_cons (a := 2) (exm_of eC_BadRows cl_BadRows tC_BadRows sb_BadRows_BadRows) tak_nil))
  have fx_g_BadRows : mg "BadRows" = some (.ref (G.ca 2)) := PySem.W.mg_of X Gn aC_BadRows
  have fx : Fx G mg := ⟨fx_b_abs, fx_b_bool, fx_b_enumerate, fx_b_int, fx_b_isinstance, fx_b_len, fx_b_list, fx_b_max, fx_b_range, fx_b_tuple, fx_a_rows, fx_a_value, fx_a_what, fx_s_rows, fx_t_CalendarError, fx_g_CalendarError, fx_t_BadNumber, fx_g_BadNumber, fx_t_BadRows, fx_g_BadRows⟩
  have bi_BadNumber : Binds K (PySem.W.ksFn "__init__" "BadNumber.__init__" (defArgs i_BadNumber) (defBody i_BadNumber) (defScope i_BadNumber) .none kV_BadNumber dc_BadNumber pm_BadNumber an_BadNumber (.ref cda_BadNumber) ct_BadNumber cc_BadNumber) ["self", "what", "value"] [] := binds2 fun a b c => rfl
  have bi_BadRows : Binds K (PySem.W.ksFn "__init__" "BadRows.__init__" (defArgs i_BadRows) (defBody i_BadRows) (defScope i_BadRows) .none kV_BadRows dc_BadRows pm_BadRows an_BadRows (.ref cda_BadRows) ct_BadRows cc_BadRows) ["self", "place"] [] := binds1 fun a b => rfl
  have F_start_of := fun_mk (st := t_start_of) l_start_of c_start_of k_start_of
  have b_start_of := F_start_of.binds (ps := ["rows", "place"]) fun _ _ _ _ _ _ us hl => match us, hl with | [_, _], _ => rfl
  have F_row_value := fun_mk (st := t_row_value) l_row_value c_row_value k_row_value
  have b_row_value := F_row_value.binds (ps := ["row", "minute"]) fun _ _ _ _ _ _ us hl => match us, hl with | [_, _], _ => rfl
  have F_greater := fun_mk (st := t_greater) l_greater c_greater k_greater
  have b_greater := F_greater.binds (ps := ["first", "second"]) fun _ _ _ _ _ _ us hl => match us, hl with | [_, _], _ => rfl
  have F_lesser := fun_mk (st := t_lesser) l_lesser c_lesser k_lesser
  have b_lesser := F_lesser.binds (ps := ["first", "second"]) fun _ _ _ _ _ _ us hl => match us, hl with | [_, _], _ => rfl
  have F_shortest := fun_mk (st := t_shortest) l_shortest c_shortest k_shortest
  have b_shortest := F_shortest.binds (ps := ["rows"]) fun _ _ _ _ _ _ us hl => match us, hl with | [_], _ => rfl
  have F_follows := fun_mk (st := t_follows) l_follows c_follows k_follows
  have b_follows := F_follows.binds (ps := ["before", "start", "value"]) fun _ _ _ _ _ _ us hl => match us, hl with | [_, _, _], _ => rfl
  have F_is_integer := fun_mk (st := t_is_integer) l_is_integer c_is_integer k_is_integer
  have b_is_integer := F_is_integer.binds (ps := ["value"]) fun _ _ _ _ _ _ us hl => match us, hl with | [_], _ => rfl
  have F_is_good_row := fun_mk (st := t_is_good_row) l_is_good_row c_is_good_row k_is_good_row
  have b_is_good_row := F_is_good_row.binds (ps := ["rows", "place"]) fun _ _ _ _ _ _ us hl => match us, hl with | [_, _], _ => rfl
  have F_check_rows := fun_mk (st := t_check_rows) l_check_rows c_check_rows k_check_rows
  have b_check_rows := F_check_rows.binds (ps := ["rows"]) fun _ _ _ _ _ _ us hl => match us, hl with | [_], _ => rfl
  have F_Rising___init__ := fun_mk (st := t_Rising___init__) l_Rising___init__ c_Rising___init__ k_Rising___init__
  have b_Rising___init__ := F_Rising___init__.binds (ps := ["self", "rows"]) fun _ _ _ _ _ _ us hl => match us, hl with | [_, _], _ => rfl
  have F_check_integer := fun_mk (st := t_check_integer) l_check_integer c_check_integer k_check_integer
  have b_check_integer := F_check_integer.binds (ps := ["what", "value"]) fun _ _ _ _ _ _ us hl => match us, hl with | [_, _], _ => rfl
  have F_check_number := fun_mk (st := t_check_number) l_check_number c_check_number k_check_number
  have b_check_number := F_check_number.binds (ps := ["what", "value", "low", "high"]) fun _ _ _ _ _ _ us hl => match us, hl with | [_, _, _, _], _ => rfl
  have F_stretches := fun_mk (st := t_stretches) l_stretches c_stretches k_stretches
  have b_stretches := F_stretches.binds (ps := ["rows"]) fun _ _ _ _ _ _ us hl => match us, hl with | [_], _ => rfl
  have F_Rising_levels := fun_mk (st := t_Rising_levels) l_Rising_levels c_Rising_levels k_Rising_levels
  obtain ⟨ds_Rising_levels, hv_Rising_levels, hb_Rising_levels, hk_Rising_levels⟩ := kw_facts (st := t_Rising_levels) (pn := "least") rfl l_Rising_levels c_Rising_levels k_Rising_levels n_Rising_levels (fun _ _ _ _ _ _ us ks h1 h2 => match us, ks, h1, h2 with | [_], [_], _, _ => ⟨_, _, _, _, _, _, rfl, rfl, rfl⟩) (fun _ _ _ _ _ _ us mv ws h1 h2 h3 => match us, mv, ws, h1, h2, h3 with | [_], [], [_], _, _, _ => rfl)
  have F__law_start := fun_mk (st := t__law_start) l__law_start c__law_start k__law_start
  have b__law_start := F__law_start.binds (ps := ["_law_script"]) fun _ _ _ _ _ _ us hl => match us, hl with | [_], _ => rfl
  have F__law_draw := fun_mk (st := t__law_draw) l__law_draw c__law_draw k__law_draw
  have b__law_draw := F__law_draw.binds (ps := ["_law_script", "_law_state", "_law_limit"]) fun _ _ _ _ _ _ us hl => match us, hl with | [_, _, _], _ => rfl
  have F__law_values := fun_mk (st := t__law_values) l__law_values c__law_values k__law_values
  have b__law_values := F__law_values.binds (ps := ["_law_script", "_law_state", "_law_most"]) fun _ _ _ _ _ _ us hl => match us, hl with | [_, _, _], _ => rfl
  have F__law_rows := fun_mk (st := t__law_rows) l__law_rows c__law_rows k__law_rows
  have b__law_rows := F__law_rows.binds (ps := ["_law_script", "_law_state", "_law_values_here"]) fun _ _ _ _ _ _ us hl => match us, hl with | [_, _, _], _ => rfl
  have F__law_at := fun_mk (st := t__law_at) l__law_at c__law_at k__law_at
  have b__law_at := F__law_at.binds (ps := ["_law_values_here", "_law_minute"]) fun _ _ _ _ _ _ us hl => match us, hl with | [_, _], _ => rfl
  have F__law_due := fun_mk (st := t__law_due) l__law_due c__law_due k__law_due
  have b__law_due := F__law_due.binds (ps := ["_law_values_here", "_law_size"]) fun _ _ _ _ _ _ us hl => match us, hl with | [_, _], _ => rfl
  have F__law_told := fun_mk (st := t__law_told) l__law_told c__law_told k__law_told
  have b__law_told := F__law_told.binds (ps := ["_law_f", "_law_size"]) fun _ _ _ _ _ _ us hl => match us, hl with | [_, _], _ => rfl
  have F_law := fun_mk (st := t_law) l_law c_law k_law
  refine ⟨PySem.W.fnOf "law" "law" (defArgs t_law) (defBody t_law) (defScope t_law) .none kV_law dc_law pm_law an_law cd_law ct_law, fun s v => .of_eq rfl, fun base _ _ => ?_⟩
  have e_BadNumber : OwnErr P w G mg base "BadNumber" 1 1 2 (mk2s ("what" : Str) ("value" : Str)) := ⟨ox_BadNumber, PySem.W.mg_of X Gn aC_BadNumber, _, _, _, iC_BadNumber, tI_BadNumber, bi_BadNumber, init_two (k := 0) (c := 1) (G := G) lI_BadNumber st_BadNumber si_BadNumber hfile htop ⟨_, rfl, rfl⟩ (fun _ => by kernel_rfl) (fun _ => by kernel_rfl) (fun _ => by kernel_rfl) ⟨by decide +kernel, by decide +kernel⟩ ⟨by decide +kernel, by decide +kernel⟩ nf_BadNumber_what nf_BadNumber_value mk2s_ok (fun A outer s H E => msg_f (i := 0) (by kernel_rfl) (by kernel_rfl) (by kernel_rfl) (by kernel_rfl) (by decide +kernel))⟩
  have e_BadRows : OwnErr P w G mg base "BadRows" 1 2 1 (mk1 ("place" : Str)) := ⟨ox_BadRows, PySem.W.mg_of X Gn aC_BadRows, _, _, _, iC_BadRows, tI_BadRows, bi_BadRows, init_one (k := 0) (c := 2) (G := G) lI_BadRows st_BadRows si_BadRows hfile htop ⟨_, rfl, rfl⟩ (fun _ => by kernel_rfl) (fun _ => by kernel_rfl) (fun _ => by kernel_rfl) ⟨by decide +kernel, by decide +kernel⟩ nf_BadRows_place mk1_ok (fun A outer s H E => msg_const)⟩
  have c_start_of : Callee P w G mg base "start_of" 1 ["rows", "place"] m_start_of := ⟨_, _, PySem.W.mg_of X Gn a_start_of, k_start_of, b_start_of, ok_start_of fx F_start_of⟩
  have c_row_value : Callee P w G mg base "row_value" 1 ["row", "minute"] m_row_value := ⟨_, _, PySem.W.mg_of X Gn a_row_value, k_row_value, b_row_value, ok_row_value fx F_row_value⟩
  have c_greater : Callee P w G mg base "greater" 1 ["first", "second"] m_greater := ⟨_, _, PySem.W.mg_of X Gn a_greater, k_greater, b_greater, ok_greater fx F_greater⟩
  have c_lesser : Callee P w G mg base "lesser" 1 ["first", "second"] m_lesser := ⟨_, _, PySem.W.mg_of X Gn a_lesser, k_lesser, b_lesser, ok_lesser fx F_lesser⟩
  have c_shortest : Callee P w G mg base "shortest" 2 ["rows"] m_shortest := ⟨_, _, PySem.W.mg_of X Gn a_shortest, k_shortest, b_shortest, ok_shortest fx c_start_of c_greater c_lesser c_row_value F_shortest⟩
  have c_follows : Callee P w G mg base "follows" 2 ["before", "start", "value"] m_follows := ⟨_, _, PySem.W.mg_of X Gn a_follows, k_follows, b_follows, ok_follows fx c_row_value F_follows⟩
  have c_is_integer : Callee P w G mg base "is_integer" 1 ["value"] m_is_integer := ⟨_, _, PySem.W.mg_of X Gn a_is_integer, k_is_integer, b_is_integer, ok_is_integer fx F_is_integer⟩
  have c_is_good_row : Callee P w G mg base "is_good_row" 3 ["rows", "place"] m_is_good_row := ⟨_, _, PySem.W.mg_of X Gn a_is_good_row, k_is_good_row, b_is_good_row, ok_is_good_row fx c_is_integer c_follows F_is_good_row⟩
  have c_check_rows : Callee P w G mg base "check_rows" 4 ["rows"] m_check_rows := ⟨_, _, PySem.W.mg_of X Gn a_check_rows, k_check_rows, b_check_rows, ok_check_rows fx c_is_good_row e_BadRows F_check_rows⟩
  have mk_Rising : OwnCls P w G mg base "Rising" 5 3 1 m_Rising___init__ := ⟨PySem.W.mg_of X Gn aC_Rising, _, _, _, ⟨mkI_Rising, a_Rising___init__, i_Rising___init__, kcI_Rising⟩, b_Rising___init__, rfl, ok_Rising___init__ fx c_check_rows c_shortest F_Rising___init__⟩
  have c_check_integer : Callee P w G mg base "check_integer" 3 ["what", "value"] m_check_integer := ⟨_, _, PySem.W.mg_of X Gn a_check_integer, k_check_integer, b_check_integer, ok_check_integer fx c_is_integer e_BadNumber F_check_integer⟩
  have c_check_number : Callee P w G mg base "check_number" 4 ["what", "value", "low", "high"] m_check_number := ⟨_, _, PySem.W.mg_of X Gn a_check_number, k_check_number, b_check_number, ok_check_number fx c_check_integer e_BadNumber F_check_number⟩
  have c_stretches : Callee P w G mg base "stretches" 2 ["rows"] m_stretches := ⟨_, _, PySem.W.mg_of X Gn a_stretches, k_stretches, b_stretches, ok_stretches fx c_row_value F_stretches⟩
  have om_Rising_levels : OwnMethK P w G mg base "levels" "least" 2 5 3 m_Rising_levels := ⟨clI_Rising, _, _, _, ⟨a_Rising_levels, i_Rising_levels, k_Rising_levels⟩, hv_Rising_levels, hb_Rising_levels, hk_Rising_levels, ok_Rising_levels fx c_check_number c_stretches F_Rising_levels⟩
  have c__law_start : Callee P w G mg base "_law_start" 1 ["_law_script"] m__law_start := ⟨_, _, PySem.W.mg_of X Gn a__law_start, k__law_start, b__law_start, ok__law_start fx F__law_start⟩
  have c__law_draw : Callee P w G mg base "_law_draw" 1 ["_law_script", "_law_state", "_law_limit"] m__law_draw := ⟨_, _, PySem.W.mg_of X Gn a__law_draw, k__law_draw, b__law_draw, ok__law_draw fx F__law_draw⟩
  have c__law_values : Callee P w G mg base "_law_values" 2 ["_law_script", "_law_state", "_law_most"] m__law_values := ⟨_, _, PySem.W.mg_of X Gn a__law_values, k__law_values, b__law_values, ok__law_values fx c__law_draw F__law_values⟩
  have c__law_rows : Callee P w G mg base "_law_rows" 2 ["_law_script", "_law_state", "_law_values_here"] m__law_rows := ⟨_, _, PySem.W.mg_of X Gn a__law_rows, k__law_rows, b__law_rows, ok__law_rows fx c__law_draw F__law_rows⟩
  have c__law_at : Callee P w G mg base "_law_at" 1 ["_law_values_here", "_law_minute"] m__law_at := ⟨_, _, PySem.W.mg_of X Gn a__law_at, k__law_at, b__law_at, ok__law_at fx F__law_at⟩
  have c__law_due : Callee P w G mg base "_law_due" 2 ["_law_values_here", "_law_size"] m__law_due := ⟨_, _, PySem.W.mg_of X Gn a__law_due, k__law_due, b__law_due, ok__law_due fx c__law_at F__law_due⟩
  have c__law_told : Callee P w G mg base "_law_told" 6 ["_law_f", "_law_size"] m__law_told := ⟨_, _, PySem.W.mg_of X Gn a__law_told, k__law_told, b__law_told, ok__law_told fx om_Rising_levels F__law_told⟩
  exact law_to (G := G) (ok_law fx c__law_start c__law_values c__law_rows c__law_due c__law_told mk_Rising om_Rising_levels F_law) (fun ns c _ hc => law_spec ns c hc)
end K06
open PySem PySem.W PyProof.Rows in
set_option maxRecDepth 100000 in
set_option maxHeartbeats 0 in
theorem PySem.Challenge.cw_laterways_k06_level_stretches_holds : PySem.Challenge.rw_laterways_k06_level_stretches.Holds := by
  w_on; o_law; k_head; (case hw => w_witness2)
  k_fill
  refine ML.law_walk (l := PySem.Challenge.rw_laterways_k06_level_stretches) (k := 7) (x := "_law_script") rfl rfl ⟨rfl, by decide, by decide⟩ (fun w h Y => PySem.W.kIn_of Y) ?F
  case F =>
    intro w mg fa h KX G hmg
    refine' K06.all_mk KX G hmg ?hfile ?htop ?z_abs ?z_bool ?z_enumerate ?z_int ?z_isinstance ?z_len ?z_list ?z_max ?z_range ?z_tuple ?z_super ?z_tp ?x_hn ?x_ht ?aC_CalendarError ?aC_BadNumber ?aC_BadRows ?xL_CalendarError ?eC_CalendarError ?tC_CalendarError ?cl_CalendarError ?mr_CalendarError ?sb_CalendarError_BadNumber ?sb_CalendarError_BadRows ?xL_BadNumber ?eC_BadNumber ?tC_BadNumber ?cl_BadNumber ?mr_BadNumber ?sb_BadNumber_BadNumber ?sb_BadNumber_BadRows ?xL_BadRows ?eC_BadRows ?tC_BadRows ?cl_BadRows ?mr_BadRows ?sb_BadRows_BadNumber ?sb_BadRows_BadRows ?fi_CalendarError ?rb_BadNumber ?sa_BadNumber ?kC_BadNumber ?ga_BadNumber ?gg_BadNumber ?hd_BadNumber ?ha_BadNumber ?hm_BadNumber ?sv_BadNumber ?nf_BadNumber_what ?nf_BadNumber_value ?rb_BadRows ?sa_BadRows ?kC_BadRows ?ga_BadRows ?gg_BadRows ?hd_BadRows ?ha_BadRows ?hm_BadRows ?sv_BadRows ?nf_BadRows_place ?iC_BadNumber ?tI_BadNumber ?lI_BadNumber ?lC_BadNumber ?vC_BadNumber ?cQ_BadNumber ?ce_BadNumber ?iC_BadRows ?tI_BadRows ?lI_BadRows ?lC_BadRows ?vC_BadRows ?cQ_BadRows ?ce_BadRows ?aC_Rising ?pg_Rising ?hdI_Rising ?po_Rising ?saI_Rising ?mkI_Rising ?kcI_Rising ?haI_Rising ?hmI_Rising ?nI_Rising_rows ?a_Rising___init__ ?i_Rising___init__ ?l_Rising___init__ ?c_Rising___init__ ?k_Rising___init__ ?a_Rising_levels ?i_Rising_levels ?l_Rising_levels ?n_Rising_levels ?c_Rising_levels ?k_Rising_levels ?a_is_integer ?l_is_integer ?c_is_integer ?k_is_integer ?a_check_integer ?l_check_integer ?c_check_integer ?k_check_integer ?a_check_number ?l_check_number ?c_check_number ?k_check_number ?a_lesser ?l_lesser ?c_lesser ?k_lesser ?a_greater ?l_greater ?c_greater ?k_greater ?a_row_value ?l_row_value ?c_row_value ?k_row_value ?a_start_of ?l_start_of ?c_start_of ?k_start_of ?a_follows ?l_follows ?c_follows ?k_follows ?a_is_good_row ?l_is_good_row ?c_is_good_row ?k_is_good_row ?a_check_rows ?l_check_rows ?c_check_rows ?k_check_rows ?a_shortest ?l_shortest ?c_shortest ?k_shortest ?a_stretches ?l_stretches ?c_stretches ?k_stretches ?a__law_start ?l__law_start ?c__law_start ?k__law_start ?a__law_draw ?l__law_draw ?c__law_draw ?k__law_draw ?a__law_values ?l__law_values ?c__law_values ?k__law_values ?a__law_at ?l__law_at ?c__law_at ?k__law_at ?a__law_rows ?l__law_rows ?c__law_rows ?k__law_rows ?a__law_due ?l__law_due ?c__law_due ?k__law_due ?a__law_told ?l__law_told ?c__law_told ?k__law_told ?a_law ?l_law ?c_law ?k_law
    (case hfile => kernel_rfl)
    (case htop => kernel_rfl)
    (case z_abs => k_is)
    (case z_bool => k_is)
    (case z_enumerate => k_is)
    (case z_int => k_is)
    (case z_isinstance => k_is)
    (case z_len => k_is)
    (case z_list => k_is)
    (case z_max => k_is)
    (case z_range => k_is)
    (case z_tuple => k_is)
    (case z_super => k_is)
    (case z_tp => k_is)
    (case x_hn => k_is)
    (case x_ht => k_is)
    (case aC_CalendarError => k_is)
    (case aC_BadNumber => k_is)
    (case aC_BadRows => k_is)
    (case xL_CalendarError => k_is)
    (case eC_CalendarError => k_is)
    (case tC_CalendarError => k_is)
    (case cl_CalendarError => k_is)
    (case mr_CalendarError => k_is)
    (case sb_CalendarError_BadNumber => k_is)
    (case sb_CalendarError_BadRows => k_is)
    (case xL_BadNumber => k_is)
    (case eC_BadNumber => k_is)
    (case tC_BadNumber => k_is)
    (case cl_BadNumber => k_is)
    (case mr_BadNumber => k_is)
    (case sb_BadNumber_BadNumber => k_is)
    (case sb_BadNumber_BadRows => k_is)
    (case xL_BadRows => k_is)
    (case eC_BadRows => k_is)
    (case tC_BadRows => k_is)
    (case cl_BadRows => k_is)
    (case mr_BadRows => k_is)
    (case sb_BadRows_BadNumber => k_is)
    (case sb_BadRows_BadRows => k_is)
    (case fi_CalendarError => k_is)
    (case rb_BadNumber => decide +kernel)
    (case sa_BadNumber => k_is)
    (case kC_BadNumber => k_is)
    (case ga_BadNumber => k_is)
    (case gg_BadNumber => k_is)
    (case hd_BadNumber => k_is)
    (case ha_BadNumber => k_is)
    (case hm_BadNumber => k_is)
    (case sv_BadNumber => k_is)
    (case nf_BadNumber_what => k_is)
    (case nf_BadNumber_value => k_is)
    (case rb_BadRows => decide +kernel)
    (case sa_BadRows => k_is)
    (case kC_BadRows => k_is)
    (case ga_BadRows => k_is)
    (case gg_BadRows => k_is)
    (case hd_BadRows => k_is)
    (case ha_BadRows => k_is)
    (case hm_BadRows => k_is)
    (case sv_BadRows => k_is)
    (case nf_BadRows_place => k_is)
    (case iC_BadNumber => k_is)
    (case tI_BadNumber => k_is)
    (case lI_BadNumber => k_is)
    (case lC_BadNumber => k_is)
    (case vC_BadNumber => first | rfl | decide +kernel)
    (case cQ_BadNumber => k_is)
    (case ce_BadNumber => k_is)
    (case iC_BadRows => k_is)
    (case tI_BadRows => k_is)
    (case lI_BadRows => k_is)
    (case lC_BadRows => k_is)
    (case vC_BadRows => first | rfl | decide +kernel)
    (case cQ_BadRows => k_is)
    (case ce_BadRows => k_is)
    (case aC_Rising => k_is)
    (case pg_Rising => k_is)
    (case hdI_Rising => k_is)
    (case po_Rising => k_is)
    (case saI_Rising => k_is)
    (case mkI_Rising => k_is)
    (case kcI_Rising => k_is)
    (case haI_Rising => k_is)
    (case hmI_Rising => k_is)
    (case nI_Rising_rows => k_is)
    (case a_Rising___init__ => k_is)
    (case i_Rising___init__ => k_is)
    (case l_Rising___init__ => k_is)
    (case c_Rising___init__ => k_is)
    (case k_Rising___init__ => k_is)
    (case a_Rising_levels => k_is)
    (case i_Rising_levels => k_is)
    (case l_Rising_levels => k_is)
    (case n_Rising_levels => k_is)
    (case c_Rising_levels => k_is)
    (case k_Rising_levels => k_is)
    (case a_is_integer => k_is)
    (case l_is_integer => k_is)
    (case c_is_integer => k_is)
    (case k_is_integer => k_is)
    (case a_check_integer => k_is)
    (case l_check_integer => k_is)
    (case c_check_integer => k_is)
    (case k_check_integer => k_is)
    (case a_check_number => k_is)
    (case l_check_number => k_is)
    (case c_check_number => k_is)
    (case k_check_number => k_is)
    (case a_lesser => k_is)
    (case l_lesser => k_is)
    (case c_lesser => k_is)
    (case k_lesser => k_is)
    (case a_greater => k_is)
    (case l_greater => k_is)
    (case c_greater => k_is)
    (case k_greater => k_is)
    (case a_row_value => k_is)
    (case l_row_value => k_is)
    (case c_row_value => k_is)
    (case k_row_value => k_is)
    (case a_start_of => k_is)
    (case l_start_of => k_is)
    (case c_start_of => k_is)
    (case k_start_of => k_is)
    (case a_follows => k_is)
    (case l_follows => k_is)
    (case c_follows => k_is)
    (case k_follows => k_is)
    (case a_is_good_row => k_is)
    (case l_is_good_row => k_is)
    (case c_is_good_row => k_is)
    (case k_is_good_row => k_is)
    (case a_check_rows => k_is)
    (case l_check_rows => k_is)
    (case c_check_rows => k_is)
    (case k_check_rows => k_is)
    (case a_shortest => k_is)
    (case l_shortest => k_is)
    (case c_shortest => k_is)
    (case k_shortest => k_is)
    (case a_stretches => k_is)
    (case l_stretches => k_is)
    (case c_stretches => k_is)
    (case k_stretches => k_is)
    (case a__law_start => k_is)
    (case l__law_start => k_is)
    (case c__law_start => k_is)
    (case k__law_start => k_is)
    (case a__law_draw => k_is)
    (case l__law_draw => k_is)
    (case c__law_draw => k_is)
    (case k__law_draw => k_is)
    (case a__law_values => k_is)
    (case l__law_values => k_is)
    (case c__law_values => k_is)
    (case k__law_values => k_is)
    (case a__law_at => k_is)
    (case l__law_at => k_is)
    (case c__law_at => k_is)
    (case k__law_at => k_is)
    (case a__law_rows => k_is)
    (case l__law_rows => k_is)
    (case c__law_rows => k_is)
    (case k__law_rows => k_is)
    (case a__law_due => k_is)
    (case l__law_due => k_is)
    (case c__law_due => k_is)
    (case k__law_due => k_is)
    (case a__law_told => k_is)
    (case l__law_told => k_is)
    (case c__law_told => k_is)
    (case k__law_told => k_is)
    (case a_law => k_is)
    (case l_law => k_is)
    (case c_law => k_is)
    (case k_law => k_is)
