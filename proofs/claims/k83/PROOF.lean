import PyProof.Rows.All
import Wide.All
import OpenK.AllK
import Wide.FinOn
import HandS.ForMost
import HandS.Exc
import HandS.ExcOwn
import HandS.WordsExc
import HandS.CallSlots
import HandS.IsInst
import HandS.FStr
import HandS.Flow
import HandS.TupAny
import HandS.ExcInit
import KE.KExcSuper
import KE.KExcIs
import KE.KIsAll
import HandS.Iter
import HandS.Text
import HandS.Small
import PySem.Challenge.RW_laterways_k83_kinds_of_errors
set_option Elab.async false
set_option linter.all false
set_option maxRecDepth 100000
set_option maxHeartbeats 4000000
namespace ML
open PySem L2

/-! ### values without addresses, a heap without addresses -/
inductive U where
  | non | bl (b : Bool) | int (i : Int) | str (x : Str) | tup (ws : List U) | ref (i : Nat)

inductive Cell where
  | lst (ws : List U)
  | frz (ws : List U)
  | ins (c : Nat) (fs : List (Str × U))
  | exc (c : Nat) (fs : List (Str × U))
def Cell.live : Cell → Bool
  | .frz _ => false
  | .exc _ _ => false
  | _ => true
abbrev Hm := List Cell
inductive Rz (α : Type) where
  | ok (a : α) (h : Hm)
  | ex (c : Nat) (fs : List (Str × U)) (h : Hm)
abbrev Ev := List (Option U)
/-- an expression, a test, arguments -/
abbrev ME := Ev → Hm → Option (Rz U)
abbrev MT := Ev → Hm → Option (Rz Bool)
abbrev MA := Ev → Hm → Option (Rz (List U))
/-- a def -/
abbrev MF := List U → Hm → Option (Rz U)

/-- sequence -/
def bnd {α β : Type} (x : Option (Rz α)) (k : α → Hm → Option (Rz β)) : Option (Rz β) :=
  match x with
  | some (.ok a h) => k a h
  | some (.ex c fs h) => some (.ex c fs h)
  | none => none
@[simp] theorem bnd_ok {α β : Type} (a : α) (h : Hm) (k : α → Hm → Option (Rz β)) : bnd (some (.ok a h)) k = k a h := rfl
@[simp] theorem bnd_ex {α β : Type} (c fs h) (k : α → Hm → Option (Rz β)) : bnd (some (.ex c fs h)) k = some (.ex c fs h) := rfl
@[simp] theorem bnd_none {α β : Type} (k : α → Hm → Option (Rz β)) : bnd none k = none := rfl

/-! ### what a value of the one is in the other -/
structure Gm where
  K : PySem.W.Frag
  ca : Nat → Addr

mutual
def RU (K : PySem.W.Frag) (μ : Nat → Addr) (n : Nat) (H : Hp) : U → V → Prop
  | .non, v => v = .non
  | .bl b, v => v = .bl b
  | .int i, v => v = .int i
  | .str x, v => v = .str x
  | .ref i, v => i < n ∧ v = .ref (μ i)
  | .tup ws, v => ∃ a xs, v = .ref a ∧ SqT K H a xs ∧ RUs K μ n H ws xs
def RUs (K : PySem.W.Frag) (μ : Nat → Addr) (n : Nat) (H : Hp) : List U → List V → Prop
  | [], xs => xs = []
  | w :: ws, xs => ∃ y ys, xs = y :: ys ∧ RU K μ n H w y ∧ RUs K μ n H ws ys
end

def RFs (K : PySem.W.Frag) (μ : Nat → Addr) (n : Nat) (H : Hp) : List (Str × U) → List (Str × V) → Prop
  | [], gs => gs = []
  | (f, w) :: fs, gs => ∃ y ys, gs = (f, y) :: ys ∧ RU K μ n H w y ∧ RFs K μ n H fs ys

/-- tuples stay -/
def TS0 (K : PySem.W.Frag) (H H' : Hp) : Prop := ∀ a xs, SqT K H a xs → SqT K H' a xs
theorem TS0.refl (K : PySem.W.Frag) (H : Hp) : TS0 K H H := fun _ _ h => h
theorem TS0.trans {K : PySem.W.Frag} {H H1 H2 : Hp} (a : TS0 K H H1) (b : TS0 K H1 H2) : TS0 K H H2 := fun x y h => b x y (a x y h)

mutual
theorem RU.mono {K : PySem.W.Frag} {μ μ' : Nat → Addr} {n n' : Nat} {H H' : Hp} (hm : ∀ i, i < n → μ' i = μ i) (hn : n ≤ n') (ht : TS0 K H H') : ∀ (w : U) (v : V), RU K μ n H w v → RU K μ' n' H' w v
  | .non, v, h => by simpa [RU] using h
  | .bl b, v, h => by simpa [RU] using h
  | .int i, v, h => by simpa [RU] using h
  | .str x, v, h => by simpa [RU] using h
  | .ref i, v, h => by
    simp only [RU] at h ⊢
    exact ⟨Nat.lt_of_lt_of_le h.1 hn, by rw [hm i h.1]; exact h.2⟩
  | .tup ws, v, h => by
    simp only [RU] at h ⊢
    obtain ⟨a, xs, e, s, r⟩ := h
    exact ⟨a, xs, e, ht a xs s, RUs.mono hm hn ht ws xs r⟩
theorem RUs.mono {K : PySem.W.Frag} {μ μ' : Nat → Addr} {n n' : Nat} {H H' : Hp} (hm : ∀ i, i < n → μ' i = μ i) (hn : n ≤ n') (ht : TS0 K H H') : ∀ (ws : List U) (xs : List V), RUs K μ n H ws xs → RUs K μ' n' H' ws xs
  | [], xs, h => by simpa [RUs] using h
  | w :: ws, xs, h => by
    simp only [RUs] at h ⊢
    obtain ⟨y, ys, e, r, rs⟩ := h
    exact ⟨y, ys, e, RU.mono hm hn ht w y r, RUs.mono hm hn ht ws ys rs⟩
end
theorem RFs.mono {K : PySem.W.Frag} {μ μ' : Nat → Addr} {n n' : Nat} {H H' : Hp} (hm : ∀ i, i < n → μ' i = μ i) (hn : n ≤ n') (ht : TS0 K H H') : ∀ (fs : List (Str × U)) (gs : List (Str × V)), RFs K μ n H fs gs → RFs K μ' n' H' fs gs
  | [], gs, h => by simpa [RFs] using h
  | (f, w) :: fs, gs, h => by
    simp only [RFs] at h ⊢
    obtain ⟨y, ys, e, r, rs⟩ := h
    exact ⟨y, ys, e, r.mono hm hn ht, RFs.mono hm hn ht fs ys rs⟩

theorem RUs.length {K : PySem.W.Frag} {μ : Nat → Addr} {n : Nat} {H : Hp} : ∀ {ws : List U} {xs : List V}, RUs K μ n H ws xs → xs.length = ws.length
  | [], xs, h => by simp only [RUs] at h; subst h; rfl
  | w :: ws, xs, h => by
    simp only [RUs] at h
    obtain ⟨y, ys, rfl, _, rs⟩ := h
    simp [RUs.length rs]
theorem RUs.get {K : PySem.W.Frag} {μ : Nat → Addr} {n : Nat} {H : Hp} : ∀ {ws : List U} {xs : List V} {i : Nat} {w : U}, RUs K μ n H ws xs → ws[i]? = some w → ∃ v, xs[i]? = some v ∧ RU K μ n H w v
  | [], xs, i, w, _, e => by simp at e
  | u :: ws, xs, 0, w, h, e => by
    simp only [RUs] at h
    obtain ⟨y, ys, rfl, r, _⟩ := h
    simp at e
    subst e
    exact ⟨y, rfl, r⟩
  | u :: ws, xs, i + 1, w, h, e => by
    simp only [RUs] at h
    obtain ⟨y, ys, rfl, _, rs⟩ := h
    obtain ⟨v, e1, r⟩ := RUs.get (i := i) rs (by simpa using e)
    exact ⟨v, by simpa using e1, r⟩
theorem RUs.append {K : PySem.W.Frag} {μ : Nat → Addr} {n : Nat} {H : Hp} : ∀ {ws us : List U} {xs ys : List V}, RUs K μ n H ws xs → RUs K μ n H us ys → RUs K μ n H (ws ++ us) (xs ++ ys)
  | [], us, xs, ys, h, q => by simp only [RUs] at h; subst h; exact q
  | w :: ws, us, xs, ys, h, q => by
    simp only [RUs] at h
    obtain ⟨y, zs, rfl, r, rs⟩ := h
    show RUs K μ n H (w :: (ws ++ us)) (y :: (zs ++ ys))
    simp only [RUs]
    exact ⟨y, _, rfl, r, rs.append q⟩
theorem RUs.cons {K : PySem.W.Frag} {μ : Nat → Addr} {n : Nat} {H : Hp} {w : U} {v : V} {ws : List U} {xs : List V} (r : RU K μ n H w v) (rs : RUs K μ n H ws xs) : RUs K μ n H (w :: ws) (v :: xs) := by
  simp only [RUs]
  exact ⟨v, xs, rfl, r, rs⟩
theorem RUs.nil {K : PySem.W.Frag} {μ : Nat → Addr} {n : Nat} {H : Hp} : RUs K μ n H [] [] := by simp only [RUs]
theorem RUs.set {K : PySem.W.Frag} {μ : Nat → Addr} {n : Nat} {H : Hp} {w : U} {v : V} (r : RU K μ n H w v) : ∀ {ws : List U} {xs : List V} (i : Nat), RUs K μ n H ws xs → RUs K μ n H (ws.set i w) (xs.set i v)
  | [], xs, i, h => by simp only [RUs] at h; subst h; simp [RUs]
  | u :: ws, xs, 0, h => by
    simp only [RUs] at h
    obtain ⟨y, ys, rfl, _, rs⟩ := h
    exact RUs.cons r rs
  | u :: ws, xs, i + 1, h => by
    simp only [RUs] at h
    obtain ⟨y, ys, rfl, q, rs⟩ := h
    exact RUs.cons q (RUs.set r i rs)
theorem RUs.take {K : PySem.W.Frag} {μ : Nat → Addr} {n : Nat} {H : Hp} : ∀ {ws : List U} {xs : List V} (i : Nat), RUs K μ n H ws xs → RUs K μ n H (ws.take i) (xs.take i)
  | ws, xs, 0, h => by simp [RUs]
  | [], xs, i + 1, h => by simp only [RUs] at h; subst h; simp [RUs]
  | u :: ws, xs, i + 1, h => by
    simp only [RUs] at h
    obtain ⟨y, ys, rfl, q, rs⟩ := h
    exact RUs.cons q (RUs.take i rs)
theorem RUs.drop {K : PySem.W.Frag} {μ : Nat → Addr} {n : Nat} {H : Hp} : ∀ {ws : List U} {xs : List V} (i : Nat), RUs K μ n H ws xs → RUs K μ n H (ws.drop i) (xs.drop i)
  | ws, xs, 0, h => h
  | [], xs, i + 1, h => by simp only [RUs] at h; subst h; simp [RUs]
  | u :: ws, xs, i + 1, h => by
    simp only [RUs] at h
    obtain ⟨y, ys, rfl, q, rs⟩ := h
    exact RUs.drop i rs

/-! ### cells -/
/-- a list that is read only -/
def SqF (K : PySem.W.Frag) (H : Hp) (a : Addr) (xs : List V) : Prop :=
  (∃ o, H a = some (.frz o (.lst xs))) ∨
    ∃ (o : Obj) (its : Array Value) (n : Nat), K.lookup a = some o ∧ o.cls = .type "list" ∧ o.dict = none ∧ o.data = .seq its n ∧ its.size ≤ sizeLine ∧ Vals xs its.toList
theorem SqF.sql {K : PySem.W.Frag} {H : Hp} {a : Addr} {xs : List V} (h : SqF K H a xs) : SqL K H a xs := by
  rcases h with ⟨o, h⟩ | h
  · exact .inl (.inr ⟨o, h⟩)
  · exact .inr h
/-- an exception object of the class cls at a, its own dict d -/
def ExV (cls : Value) (d : Option Addr) (a : Addr) : HO := .ext fun h => ∃ (oe : Obj) (vs : Array Value), h.get? a = some oe ∧ Zc cls d oe ∧ oe.data = .fields vs
/-- what is known of an exception's fields -/
def RX (K : PySem.W.Frag) (μ : Nat → Addr) (n : Nat) (H : Hp) (ca : Nat → Addr) (c : Nat) (fs : List (Str × U)) (cls : Value) (d : Option Addr) : Prop :=
  cls = .ref (ca c) ∧ ((fs = [] ∧ d = none) ∨ ∃ dd gs, d = some dd ∧ H dd = some (.xd gs) ∧ RFs K μ n H fs gs)
def RCell (G : Gm) (μ : Nat → Addr) (n : Nat) (H : Hp) (a : Addr) : Cell → Prop
  | .lst ws => ∃ xs, H a = some (.lst xs) ∧ RUs G.K μ n H ws xs
  | .frz ws => ∃ xs, SqF G.K H a xs ∧ RUs G.K μ n H ws xs
  | .ins c fs => ∃ dx gs, H a = some (.ins (G.ca c) dx gs) ∧ RFs G.K μ n H fs gs
  | .exc c fs => ∃ cls d, H a = some (ExV cls d a) ∧ RX G.K μ n H G.ca c fs cls d
structure HRel (G : Gm) (μ : Nat → Addr) (h : Hm) (H : Hp) : Prop where
  cell : ∀ (i : Nat) (c : Cell), h[i]? = some c → RCell G μ h.length H (μ i) c
  inj : ∀ (i j : Nat) (c d : Cell), h[i]? = some c → h[j]? = some d → c.live = true → d.live = true → μ i = μ j → i = j
/-- one step on: more cells, what was known of tuples is known -/
structure Gr (G : Gm) (μ : Nat → Addr) (h : Hm) (H : Hp) (μ' : Nat → Addr) (h' : Hm) (H' : Hp) : Prop where
  len : h.length ≤ h'.length
  mu : ∀ i, i < h.length → μ' i = μ i
  tup : TS0 G.K H H'
  rel : HRel G μ' h' H'
section
variable {G : Gm} {μ μ' μ1 μ2 : Nat → Addr} {h h' h1 h2 : Hm} {H H' H1 H2 : Hp}
theorem Gr.refl (r : HRel G μ h H) : Gr G μ h H μ h H := ⟨Nat.le_refl _, fun _ _ => rfl, TS0.refl _ _, r⟩
theorem Gr.trans (a : Gr G μ h H μ1 h1 H1) (b : Gr G μ1 h1 H1 μ2 h2 H2) : Gr G μ h H μ2 h2 H2 :=
  ⟨Nat.le_trans a.len b.len, fun i hi => (b.mu i (Nat.lt_of_lt_of_le hi a.len)).trans (a.mu i hi), a.tup.trans b.tup, b.rel⟩
theorem Gr.ru (g : Gr G μ h H μ' h' H') {w : U} {v : V} (r : RU G.K μ h.length H w v) : RU G.K μ' h'.length H' w v := RU.mono g.mu g.len g.tup w v r
theorem Gr.rus (g : Gr G μ h H μ' h' H') {ws : List U} {vs : List V} (r : RUs G.K μ h.length H ws vs) : RUs G.K μ' h'.length H' ws vs := RUs.mono g.mu g.len g.tup ws vs r
theorem Gr.rfs (g : Gr G μ h H μ' h' H') {ws : List (Str × U)} {vs : List (Str × V)} (r : RFs G.K μ h.length H ws vs) : RFs G.K μ' h'.length H' ws vs := RFs.mono g.mu g.len g.tup ws vs r
end

/-- behind a computation: whatever heap stands behind it -/
def Post {α : Type} (G : Gm) (P : (Nat → Addr) → Hm → Hp → α → Prop) (E : XK) (μ : Nat → Addr) (h : Hm) (H : Hp) (r : Option (Rz α)) : Prop :=
  match r with
  | some (.ok a h') => ∀ μ' H', Gr G μ h H μ' h' H' → P μ' h' H' a
  | some (.ex c fs h') => ∀ μ' H' cls d, Gr G μ h H μ' h' H' → RX G.K μ' h'.length H' G.ca c fs cls d → E cls d H'
  | none => False
section
variable {α β : Type} {G : Gm} {P P' : (Nat → Addr) → Hm → Hp → α → Prop} {R : (Nat → Addr) → Hm → Hp → β → Prop} {E : XK} {μ : Nat → Addr} {h : Hm} {H : Hp}
theorem Post.mono {r : Option (Rz α)} (p : Post G P E μ h H r) (k : ∀ μ' h' H' a, Gr G μ h H μ' h' H' → P μ' h' H' a → P' μ' h' H' a) : Post G P' E μ h H r := by
  cases r with
  | none => exact p
  | some r =>
    cases r with
    | ok a h' => exact fun μ' H' g => k μ' h' H' a g (p μ' H' g)
    | ex c fs h' => exact p
theorem Post.bnd {x : Option (Rz α)} {k : α → Hm → Option (Rz β)} (p : Post G R E μ h H (bnd x k)) : Post G (fun μ1 h1 H1 a => Post G R E μ1 h1 H1 (k a h1)) E μ h H x := by
  cases x with
  | none => exact p
  | some r =>
    cases r with
    | ex c fs h' => exact p
    | ok a h1 =>
      intro μ1 H1 g1
      have p : Post G R E μ h H (k a h1) := p
      show Post G R E μ1 h1 H1 (k a h1)
      cases e : k a h1 with
      | none => rw [e] at p; exact p
      | some r =>
        rw [e] at p
        cases r with
        | ok b h2 => exact fun μ2 H2 g2 => p μ2 H2 (g1.trans g2)
        | ex c fs h2 => exact fun μ2 H2 cls d g2 rx => p μ2 H2 cls d (g1.trans g2) rx
theorem Post.ok {a : α} (r : HRel G μ h H) (p : Post G P E μ h H (some (.ok a h))) : P μ h H a := p μ H (Gr.refl r)
end

/-- the slots -/
structure StOk (G : Gm) (μ : Nat → Addr) (ρ : Ev) (h : Hm) (σ : St) (H : Hp) : Prop where
  rel : HRel G μ h H
  len : ρ.length = σ.length
  slot : ∀ (i : Nat) (w : U), ρ[i]? = some (some w) → ∃ v, σ[i]? = some (some v) ∧ RU G.K μ h.length H w v
section
variable {G : Gm} {μ μ' : Nat → Addr} {ρ : Ev} {h h' : Hm} {σ : St} {H H' : Hp}
theorem StOk.on (s : StOk G μ ρ h σ H) (g : Gr G μ h H μ' h' H') : StOk G μ' ρ h' σ H' :=
  ⟨g.rel, s.len, fun i w e => by obtain ⟨v, e1, r⟩ := s.slot i w e; exact ⟨v, e1, g.ru r⟩⟩
theorem StOk.set {w : U} {v : V} (s : StOk G μ ρ h σ H) (i : Nat) (r : RU G.K μ h.length H w v) : StOk G μ (ρ.set i (some w)) h (σ.set i (some v)) H := by
  refine ⟨s.rel, by simp [s.len], fun j u e => ?_⟩
  by_cases hj : i = j
  · subst hj
    by_cases hlt : i < ρ.length
    · rw [List.getElem?_set_self hlt] at e
      cases e
      exact ⟨v, List.getElem?_set_self (by rw [← s.len]; exact hlt), r⟩
    · rw [List.getElem?_eq_none (by simpa using hlt)] at e
      cases e
  · rw [List.getElem?_set_ne hj] at e ⊢
    exact s.slot j u e
theorem StOk.unset (s : StOk G μ ρ h σ H) (i : Nat) : StOk G μ (ρ.set i none) h (σ.set i none) H := by
  refine ⟨s.rel, by simp [s.len], fun j u e => ?_⟩
  by_cases hj : i = j
  · subst hj
    by_cases hlt : i < ρ.length
    · rw [List.getElem?_set_self hlt] at e
      cases e
    · rw [List.getElem?_eq_none (by simpa using hlt)] at e
      cases e
  · rw [List.getElem?_set_ne hj] at e ⊢
    exact s.slot j u e
end

/-! ### the readings of the layer, by such computations -/
def tE (G : Gm) (Wx : WX) (m : ME) : TE := fun σ H Q => ∃ μ ρ h, StOk G μ ρ h σ H ∧ Post G (fun μ' h' H' w => ∀ v, RU G.K μ' h'.length H' w v → Q v H') (fun cls d H' => Wx cls d σ H') μ h H (m ρ h)
def tT (G : Gm) (Wx : WX) (m : MT) : TT := fun σ H Q => ∃ μ ρ h, StOk G μ ρ h σ H ∧ Post G (fun _ _ H' b => Q b H') (fun cls d H' => Wx cls d σ H') μ h H (m ρ h)
def tA (G : Gm) (Wx : WX) (m : MA) : TA := fun σ H Q => ∃ μ ρ h, StOk G μ ρ h σ H ∧ Post G (fun μ' h' H' ws => ∀ vs, RUs G.K μ' h'.length H' ws vs → Q vs H') (fun cls d H' => Wx cls d σ H') μ h H (m ρ h)

theorem _root_.L2.PE.weak {X : Cx} {e : Expr} {t t' : TE} (h : PE X e t) (w : ∀ σ H Q, t' σ H Q → t σ H Q) : PE X e t' := ⟨fun pins s σ H Q I q => h.run pins s σ H Q I (w σ H Q q)⟩
theorem _root_.L2.PT.weak {X : Cx} {e : Expr} {t t' : TT} (h : PT X e t) (w : ∀ σ H Q, t' σ H Q → t σ H Q) : PT X e t' := ⟨fun pins s σ H Q I q => h.run pins s σ H Q I (w σ H Q q)⟩
theorem _root_.L2.PW.weak {X : Cx} {e : Expr} {t t' : TT} (h : PW X e t) (w : ∀ σ H Q, t' σ H Q → t σ H Q) : PW X e t' := ⟨fun wh pins s σ H Q I q => h.run wh pins s σ H Q I (w σ H Q q)⟩
theorem _root_.L2.PA.weak {X : Cx} {es : List Expr} {t t' : TA} (h : PA X es t) (w : ∀ σ H Q, t' σ H Q → t σ H Q) : PA X es t' := ⟨fun pos pins s σ H Q I q => h.run pos pins s σ H Q I (w σ H Q q)⟩
theorem _root_.L2.PS.weak {X : Cx} {st : Stmt} {t t' : TS} (h : PS X st t) (w : ∀ D σ H, t' D σ H → t D σ H) : PS X st t' := ⟨fun pins s σ H D I q => h.run pins s σ H D I (w D σ H q)⟩
theorem _root_.L2.PSs.weak {X : Cx} {st : List Stmt} {t t' : TS} (h : PSs X st t) (w : ∀ D σ H, t' D σ H → t D σ H) : PSs X st t' := ⟨fun pins s σ H D I q => h.run pins s σ H D I (w D σ H q)⟩
end ML

set_option maxHeartbeats 4000000
namespace ML
open PySem L2
section
variable {G : Gm} {μ μ' : Nat → Addr} {h h' : Hm} {H H' : Hp} {p a : Addr} {o : HO} {c d : Cell} {n : Nat}

theorem RU.same {K : PySem.W.Frag} {μ : Nat → Addr} {n : Nat} {H H' : Hp} (ht : TS0 K H H') {w : U} {v : V} (r : RU K μ n H w v) : RU K μ n H' w v := RU.mono (fun _ _ => rfl) (Nat.le_refl _) ht w v r
theorem RUs.same {K : PySem.W.Frag} {μ : Nat → Addr} {n : Nat} {H H' : Hp} (ht : TS0 K H H') {w : List U} {v : List V} (r : RUs K μ n H w v) : RUs K μ n H' w v := RUs.mono (fun _ _ => rfl) (Nat.le_refl _) ht w v r

theorem TS0.fresh {K : PySem.W.Frag} (hp : H p = none) : TS0 K H (upd H p o) := fun a xs s => by
  rcases s with (s | ⟨ob, s⟩) | s
  · exact .inl (.inl (by rw [upd_ne (ne_of_none s hp)]; exact s))
  · exact .inl (.inr ⟨ob, by rw [upd_ne (ne_of_none s hp)]; exact s⟩)
  · exact .inr s
/-- what may be changed in its place: not what others lean on -/
def Wr : HO → Bool
  | .lst _ => true
  | .ins _ _ _ => true
  | .dK _ => true
  | .dT _ => true
  | _ => false
theorem TS0.write {K : PySem.W.Frag} {u : HO} (hp : H p = some u) (hu : Wr u = true) : TS0 K H (upd H p o) := fun a xs s => by
  have ne : ∀ {b w}, H b = some w → Wr w = false → b ≠ p := fun {b w} e q z => by
    subst z
    rw [hp] at e
    cases e
    rw [hu] at q
    cases q
  rcases s with (s | ⟨ob, s⟩) | s
  · exact .inl (.inl (by rw [upd_ne (ne s rfl)]; exact s))
  · exact .inl (.inr ⟨ob, by rw [upd_ne (ne s rfl)]; exact s⟩)
  · exact .inr s

/-- a cell's reading leans on these alone -/
theorem RCell.keep (r : RCell G μ n H a c) (hm : ∀ i, i < n → μ' i = μ i) (hn : n ≤ h'.length) (ht : TS0 G.K H H')
    (k : ∀ b u, (b = a ∨ Wr u = false) → H b = some u → H' b = some u) : RCell G μ' h'.length H' a c := by
  cases c with
  | lst ws => obtain ⟨xs, e, q⟩ := r; exact ⟨xs, k _ _ (.inl rfl) e, RUs.mono hm hn ht _ _ q⟩
  | frz ws =>
    obtain ⟨xs, e, q⟩ := r
    refine ⟨xs, ?_, RUs.mono hm hn ht _ _ q⟩
    rcases e with ⟨ob, e⟩ | e
    · exact .inl ⟨ob, k _ _ (.inl rfl) e⟩
    · exact .inr e
  | ins cn fs => obtain ⟨dx, gs, e, q⟩ := r; exact ⟨dx, gs, k _ _ (.inl rfl) e, RFs.mono hm hn ht _ _ q⟩
  | exc cn fs =>
    obtain ⟨cls, dd, e, q1, q2⟩ := r
    refine ⟨cls, dd, k _ _ (.inl rfl) e, q1, ?_⟩
    rcases q2 with q2 | ⟨d1, gs, e1, e2, q2⟩
    · exact .inl q2
    · exact .inr ⟨d1, gs, e1, k _ _ (.inr rfl) e2, RFs.mono hm hn ht _ _ q2⟩

def nu (μ : Nat → Addr) (n : Nat) (p : Addr) : Nat → Addr := fun i => if i = n then p else μ i
theorem nu_old {i : Nat} (hi : i < n) : nu μ n p i = μ i := if_neg (Nat.ne_of_lt hi)
theorem nu_new : nu μ n p n = p := if_pos rfl

theorem live_at (r : RCell G μ n H a c) (l : c.live = true) : ∃ u, H a = some u ∧ Wr u = true := by
  cases c with
  | lst ws => obtain ⟨xs, e, _⟩ := r; exact ⟨_, e, rfl⟩
  | frz ws => cases l
  | ins cn fs => obtain ⟨dx, gs, e, _⟩ := r; exact ⟨_, e, rfl⟩
  | exc cn fs => cases l

/-- a new object, a new cell -/
theorem Gr.new (r : HRel G μ h H) (hp : H p = none) (hc : RCell G (nu μ h.length p) (h.length + 1) (upd H p o) p c) : Gr G μ h H (nu μ h.length p) (h ++ [c]) (upd H p o) := by
  refine ⟨by simp, fun i hi => nu_old hi, TS0.fresh hp, ⟨fun i d e => ?_, fun i j c1 c2 e1 e2 l1 l2 q => ?_⟩⟩
  · by_cases hi : i < h.length
    · rw [List.getElem?_append_left hi] at e
      rw [nu_old hi]
      exact RCell.keep (r.cell i d e) (fun j hj => nu_old hj) (by simp) (TS0.fresh hp) fun b u _ z => by rw [upd_ne (ne_of_none z hp)]; exact z
    · have hi2 : i = h.length := by
        have := (List.getElem?_eq_some_iff.mp e).1
        simp at this
        omega
      subst hi2
      simp at e
      subst e
      rw [nu_new]
      simpa using hc
  · have cs : ∀ (i : Nat) (c1 : Cell), (h ++ [c])[i]? = some c1 → (i < h.length ∧ h[i]? = some c1) ∨ i = h.length := fun i c1 e => by
      by_cases hi : i < h.length
      · rw [List.getElem?_append_left hi] at e
        exact .inl ⟨hi, e⟩
      · have := (List.getElem?_eq_some_iff.mp e).1
        simp at this
        exact .inr (by omega)
    rcases cs i c1 e1 with ⟨hi, f1⟩ | hi <;> rcases cs j c2 e2 with ⟨hj, f2⟩ | hj
    · rw [nu_old hi, nu_old hj] at q
      exact r.inj i j c1 c2 f1 f2 l1 l2 q
    · subst hj
      rw [nu_old hi, nu_new] at q
      obtain ⟨u, e, _⟩ := live_at (r.cell i c1 f1) l1
      rw [q, hp] at e
      cases e
    · subst hi
      rw [nu_old hj, nu_new] at q
      obtain ⟨u, e, _⟩ := live_at (r.cell j c2 f2) l2
      rw [← q, hp] at e
      cases e
    · rw [hi, hj]
/-- a new object that is no cell (a tuple) -/
theorem HRel.fresh (r : HRel G μ h H) (hp : H p = none) : HRel G μ h (upd H p o) :=
  ⟨fun i d e => RCell.keep (r.cell i d e) (fun _ _ => rfl) (Nat.le_refl _) (TS0.fresh hp) fun b u _ z => by rw [upd_ne (ne_of_none z hp)]; exact z, r.inj⟩
theorem Gr.fresh (r : HRel G μ h H) (hp : H p = none) : Gr G μ h H μ h (upd H p o) := ⟨Nat.le_refl _, fun _ _ => rfl, TS0.fresh hp, r.fresh hp⟩

/-- a cell is changed -/
theorem Gr.write {i : Nat} (r : HRel G μ h H) (hi : h[i]? = some c) (hl : c.live = true) (hd : d.live = true) (hc : RCell G μ h.length (upd H (μ i) o) (μ i) d) : Gr G μ h H μ (h.set i d) (upd H (μ i) o) := by
  obtain ⟨u, e0, hu⟩ := live_at (r.cell i c hi) hl
  have hlt := (List.getElem?_eq_some_iff.mp hi).1
  refine ⟨by simp, fun _ _ => rfl, TS0.write e0 hu, ⟨fun j e q => ?_, fun j k c1 c2 e1 e2 l1 l2 q => ?_⟩⟩
  · by_cases hj : i = j
    · subst hj
      rw [List.getElem?_set_self hlt] at q
      cases q
      simpa using hc
    · rw [List.getElem?_set_ne hj] at q
      have ts := TS0.write (K := G.K) (o := o) e0 hu
      have ne : ∀ {b w}, H b = some w → Wr w = false → b ≠ μ i := fun {b w} z y q => by
        subst q
        rw [e0] at z
        cases z
        rw [hu] at y
        cases y
      have rc := r.cell j e q
      have hlen : (h.set i d).length = h.length := by simp
      rw [hlen]
      cases e with
      | lst ws =>
        obtain ⟨xs, s, rs⟩ := rc
        have hne : μ j ≠ μ i := fun z => hj (r.inj i j c _ hi q hl rfl z.symm)
        exact ⟨xs, by rw [upd_ne hne]; exact s, rs.same ts⟩
      | ins cn fs =>
        obtain ⟨dx, gs, s, rs⟩ := rc
        have hne : μ j ≠ μ i := fun z => hj (r.inj i j c _ hi q hl rfl z.symm)
        exact ⟨dx, gs, by rw [upd_ne hne]; exact s, RFs.mono (fun _ _ => rfl) (Nat.le_refl _) ts _ _ rs⟩
      | frz ws =>
        obtain ⟨xs, s, rs⟩ := rc
        refine ⟨xs, ?_, rs.same ts⟩
        rcases s with ⟨ob, s⟩ | s
        · exact .inl ⟨ob, by rw [upd_ne (ne s rfl)]; exact s⟩
        · exact .inr s
      | exc cn fs =>
        obtain ⟨cls, dd, s, q1, q2⟩ := rc
        refine ⟨cls, dd, by rw [upd_ne (ne s rfl)]; exact s, q1, ?_⟩
        rcases q2 with q2 | ⟨d1, gs, e1, e2, q2⟩
        · exact .inl q2
        · exact .inr ⟨d1, gs, e1, by rw [upd_ne (ne e2 rfl)]; exact e2, RFs.mono (fun _ _ => rfl) (Nat.le_refl _) ts _ _ q2⟩
  · have cs : ∀ (j : Nat) (c1 : Cell), (h.set i d)[j]? = some c1 → c1.live = true → ∃ c0, h[j]? = some c0 ∧ c0.live = true := fun j c1 e1 l1 => by
      by_cases hj : i = j
      · subst hj
        exact ⟨c, hi, hl⟩
      · rw [List.getElem?_set_ne hj] at e1
        exact ⟨c1, e1, l1⟩
    obtain ⟨a1, f1, g1⟩ := cs j c1 e1 l1
    obtain ⟨a2, f2, g2⟩ := cs k c2 e2 l2
    exact r.inj j k a1 a2 f1 f2 g1 g2 q
end
end ML

set_option maxHeartbeats 4000000
namespace ML
open PySem L2

/-! ### statements -/
inductive Sz where
  | nx (ρ : Ev) (h : Hm)
  | rt (w : U) (h : Hm)
  | bk (ρ : Ev) (h : Hm)
  | ct (ρ : Ev) (h : Hm)
  | ex (c : Nat) (fs : List (Str × U)) (ρ : Ev) (h : Hm)
abbrev MS := Ev → Hm → Option Sz
def bndS {α : Type} (ρ : Ev) (x : Option (Rz α)) (k : α → Hm → Option Sz) : Option Sz :=
  match x with
  | some (.ok a h) => k a h
  | some (.ex c fs h) => some (.ex c fs ρ h)
  | none => none
@[simp] theorem bndS_ok {α : Type} (ρ) (a : α) (h : Hm) (k : α → Hm → Option Sz) : bndS ρ (some (.ok a h)) k = k a h := rfl
@[simp] theorem bndS_ex {α : Type} (ρ c fs h) (k : α → Hm → Option Sz) : bndS ρ (some (.ex c fs h)) k = some (.ex c fs ρ h) := rfl
@[simp] theorem bndS_none {α : Type} (ρ) (k : α → Hm → Option Sz) : bndS ρ none k = none := rfl

def PostS (G : Gm) (Wx : WX) (D : Ends) (μ : Nat → Addr) (h : Hm) (H : Hp) (r : Option Sz) : Prop :=
  match r with
  | some (.nx ρ' h') => ∀ μ' σ' H', Gr G μ h H μ' h' H' → StOk G μ' ρ' h' σ' H' → D.nx σ' H'
  | some (.rt w h') => ∀ μ' H' v, Gr G μ h H μ' h' H' → RU G.K μ' h'.length H' w v → D.rt v H'
  | some (.bk ρ' h') => ∀ μ' σ' H', Gr G μ h H μ' h' H' → StOk G μ' ρ' h' σ' H' → D.bk σ' H'
  | some (.ct ρ' h') => ∀ μ' σ' H', Gr G μ h H μ' h' H' → StOk G μ' ρ' h' σ' H' → D.ct σ' H'
  | some (.ex c fs ρ' h') => ∀ μ' σ' H' cls d, Gr G μ h H μ' h' H' → StOk G μ' ρ' h' σ' H' → RX G.K μ' h'.length H' G.ca c fs cls d → Wx cls d σ' H'
  | none => False
def tS (G : Gm) (Wx : WX) (m : MS) : TS := fun D σ H => ∃ μ ρ h, StOk G μ ρ h σ H ∧ PostS G Wx D μ h H (m ρ h)

section
variable {α : Type} {G : Gm} {Wx : WX} {D : Ends} {μ μ' : Nat → Addr} {h h' : Hm} {H H' : Hp} {ρ : Ev} {σ : St}
theorem PostS.on {r : Option Sz} (p : PostS G Wx D μ h H r) (g : Gr G μ h H μ' h' H') : PostS G Wx D μ' h' H' r := by
  cases r with
  | none => exact p
  | some r =>
    cases r with
    | nx ρ1 h1 => exact fun μ1 σ1 H1 g1 s => p μ1 σ1 H1 (g.trans g1) s
    | rt w h1 => exact fun μ1 H1 v g1 s => p μ1 H1 v (g.trans g1) s
    | bk ρ1 h1 => exact fun μ1 σ1 H1 g1 s => p μ1 σ1 H1 (g.trans g1) s
    | ct ρ1 h1 => exact fun μ1 σ1 H1 g1 s => p μ1 σ1 H1 (g.trans g1) s
    | ex c fs ρ1 h1 => exact fun μ1 σ1 H1 cls d g1 s x => p μ1 σ1 H1 cls d (g.trans g1) s x
theorem PostS.bnd {x : Option (Rz α)} {k : α → Hm → Option Sz} (s : StOk G μ ρ h σ H) (p : PostS G Wx D μ h H (bndS ρ x k)) :
    Post G (fun μ1 h1 H1 a => PostS G Wx D μ1 h1 H1 (k a h1)) (fun cls d H' => Wx cls d σ H') μ h H x := by
  cases x with
  | none => exact p
  | some r =>
    cases r with
    | ok a h1 => exact fun μ1 H1 g1 => PostS.on (show PostS G Wx D μ h H (k a h1) from p) g1
    | ex c fs h1 => exact fun μ1 H1 cls d g1 rx => p μ1 σ H1 cls d g1 (s.on g1) rx

def mSkip : MS := fun ρ h => some (.nx ρ h)
def mSeq (a b : MS) : MS := fun ρ h => match a ρ h with
  | some (.nx ρ1 h1) => b ρ1 h1
  | r => r
def mRet (e : ME) : MS := fun ρ h => bndS ρ (e ρ h) fun w h1 => some (.rt w h1)
def mRetN : MS := fun _ h => some (.rt .non h)
def mDrop (e : ME) : MS := fun ρ h => bndS ρ (e ρ h) fun _ h1 => some (.nx ρ h1)
def mSet (i : Nat) (e : ME) : MS := fun ρ h => bndS ρ (e ρ h) fun w h1 => some (.nx (ρ.set i (some w)) h1)
def mIf (c : MT) (a b : MS) : MS := fun ρ h => bndS ρ (c ρ h) fun k h1 => if k = true then a ρ h1 else b ρ h1
def mBrk : MS := fun ρ h => some (.bk ρ h)
def mCont : MS := fun ρ h => some (.ct ρ h)

theorem StOk.refl_nx (s : StOk G μ ρ h σ H) (p : PostS G Wx D μ h H (some (.nx ρ h))) : D.nx σ H := p μ σ H (Gr.refl s.rel) s
theorem w_skip : ∀ D σ H, tS G Wx mSkip D σ H → tNext D σ H := fun D σ H ⟨μ, ρ, h, s, p⟩ => p μ σ H (Gr.refl s.rel) s
theorem PostS.seq {a b : MS} (p : PostS G Wx D μ h H (mSeq a b ρ h)) : PostS G Wx { D with nx := tS G Wx b D } μ h H (a ρ h) := by
  unfold mSeq at p
  cases e : a ρ h with
  | none => rw [e] at p; exact p
  | some r =>
    rw [e] at p
    cases r with
    | nx ρ1 h1 => exact fun μ1 σ1 H1 g1 s1 => ⟨μ1, ρ1, h1, s1, PostS.on p g1⟩
    | rt w h1 => exact p
    | bk ρ1 h1 => exact p
    | ct ρ1 h1 => exact p
    | ex c fs ρ1 h1 => exact p
theorem w_seq {a b : MS} : ∀ D σ H, tS G Wx (mSeq a b) D σ H → tSeq (tS G Wx a) (tS G Wx b) D σ H := fun D σ H ⟨μ, ρ, h, s, p⟩ => ⟨μ, ρ, h, s, p.seq⟩
theorem w_ret {e : ME} : ∀ D σ H, tS G Wx (mRet e) D σ H → tRet (tE G Wx e) D σ H := fun D σ H ⟨μ, ρ, h, s, p⟩ =>
  ⟨μ, ρ, h, s, (PostS.bnd s p).mono fun μ1 h1 H1 w g q v r => q μ1 H1 v (Gr.refl g.rel) r⟩
theorem w_retN : ∀ D σ H, tS G Wx mRetN D σ H → tRetN D σ H := fun D σ H ⟨μ, ρ, h, s, p⟩ => p μ H .non (Gr.refl s.rel) rfl
theorem w_drop {e : ME} : ∀ D σ H, tS G Wx (mDrop e) D σ H → tDrop (tE G Wx e) D σ H := fun D σ H ⟨μ, ρ, h, s, p⟩ =>
  ⟨μ, ρ, h, s, (PostS.bnd s p).mono fun μ1 h1 H1 w g q v r => q μ1 σ H1 (Gr.refl g.rel) (s.on g)⟩
theorem w_set {i : Nat} {e : ME} : ∀ D σ H, tS G Wx (mSet i e) D σ H → tAsg (tE G Wx e) (gName i) D σ H := fun D σ H ⟨μ, ρ, h, s, p⟩ =>
  ⟨μ, ρ, h, s, (PostS.bnd s p).mono fun μ1 h1 H1 w g q v r => q μ1 _ H1 (Gr.refl g.rel) ((s.on g).set i r)⟩
theorem w_if {c : MT} {a b : MS} : ∀ D σ H, tS G Wx (mIf c a b) D σ H → tIfS (tT G Wx c) (tS G Wx a) (tS G Wx b) D σ H := fun D σ H ⟨μ, ρ, h, s, p⟩ =>
  ⟨μ, ρ, h, s, (PostS.bnd s p).mono fun μ1 h1 H1 k g q => by
    cases k with
    | true => rw [if_pos rfl] at q ⊢; exact ⟨μ1, ρ, h1, s.on g, q⟩
    | false => rw [if_neg Bool.false_ne_true] at q ⊢; exact ⟨μ1, ρ, h1, s.on g, q⟩⟩
theorem w_brk : ∀ D σ H, tS G Wx mBrk D σ H → tBreak D σ H := fun D σ H ⟨μ, ρ, h, s, p⟩ => p μ σ H (Gr.refl s.rel) s
theorem w_cont : ∀ D σ H, tS G Wx mCont D σ H → tCont D σ H := fun D σ H ⟨μ, ρ, h, s, p⟩ => p μ σ H (Gr.refl s.rel) s

/-! ### targets -/
abbrev MG := U → Ev → Option Ev
def tG (G : Gm) (m : MG) : TG := fun v σ H Q => ∃ μ ρ h w ρ', StOk G μ ρ h σ H ∧ RU G.K μ h.length H w v ∧ m w ρ = some ρ' ∧ ∀ σ', StOk G μ ρ' h σ' H → Q σ' H
abbrev MGs := List U → Ev → Option Ev
def tGs (G : Gm) (m : MGs) : TGs := fun vs σ H Q => ∃ μ ρ h ws ρ', StOk G μ ρ h σ H ∧ RUs G.K μ h.length H ws vs ∧ m ws ρ = some ρ' ∧ ∀ σ', StOk G μ ρ' h σ' H → Q σ' H
theorem _root_.L2.PG.weak {X : Cx} {e : Expr} {t t' : TG} (h : PG X e t) (w : ∀ v σ H Q, t' v σ H Q → t v σ H Q) : PG X e t' := by
  obtain ⟨h⟩ := h
  exact ⟨fun pins s σ H v u Q I r q => h pins s σ H v u Q I r (w v σ H Q q)⟩
theorem _root_.L2.PGs.weak {X : Cx} {e : List Expr} {t t' : TGs} (h : PGs X e t) (w : ∀ v σ H Q, t' v σ H Q → t v σ H Q) : PGs X e t' := by
  obtain ⟨h⟩ := h
  exact ⟨fun pins s σ H v u Q I r q => h pins s σ H v u Q I r (w v σ H Q q)⟩
def gN (i : Nat) : MG := fun w ρ => some (ρ.set i (some w))
def gT (n : Nat) (g : MGs) : MG := fun w ρ => match w with
  | .tup ws => if ws.length = n then g ws ρ else none
  | _ => none
def gE : MGs := fun ws ρ => match ws with
  | [] => some ρ
  | _ => none
def gC (a : MG) (b : MGs) : MGs := fun ws ρ => match ws with
  | w :: r => match a w ρ with
    | some ρ1 => b r ρ1
    | none => none
  | [] => none
theorem w_gN {i : Nat} : ∀ v σ H Q, tG G (gN i) v σ H Q → gName i v σ H Q := fun v σ H Q ⟨μ, ρ, h, w, ρ', s, r, e, k⟩ => by
  cases e
  exact k _ (s.set i r)
theorem w_gE : ∀ v σ H Q, tGs G gE v σ H Q → gNil v σ H Q := fun v σ H Q ⟨μ, ρ, h, w, ρ', s, r, e, k⟩ => by
  cases w with
  | nil =>
    cases e
    simp only [RUs] at r
    exact ⟨r, k _ s⟩
  | cons a b => cases e
theorem w_gC {a : MG} {b : MGs} : ∀ v σ H Q, tGs G (gC a b) v σ H Q → gCons (tG G a) (tGs G b) v σ H Q := fun v σ H Q ⟨μ, ρ, h, w, ρ', s, r, e, k⟩ => by
  cases w with
  | nil => cases e
  | cons w ws =>
    simp only [RUs] at r
    obtain ⟨y, ys, rfl, r1, r2⟩ := r
    unfold gC at e
    simp only at e
    cases e1 : a w ρ with
    | none => rw [e1] at e; cases e
    | some ρ1 =>
      rw [e1] at e
      exact ⟨y, ys, rfl, μ, ρ, h, w, ρ1, s, r1, e1, fun σ1 s1 => ⟨μ, ρ1, h, ws, ρ', s1, r2, e, k⟩⟩
theorem w_gT {n : Nat} {g : MGs} : ∀ v σ H Q, tG G (gT n g) v σ H Q → gTup G.K n (tGs G g) v σ H Q := fun v σ H Q ⟨μ, ρ, h, w, ρ', s, r, e, k⟩ => by
  cases w with
  | tup ws =>
    unfold gT at e
    simp only at e
    split at e
    · rename_i hl
      simp only [RU] at r
      obtain ⟨a, xs, rfl, st, rs⟩ := r
      exact ⟨a, xs, rfl, st, (RUs.length rs).trans hl, μ, ρ, h, ws, ρ', s, rs, e, k⟩
    · cases e
  | _ => cases e
def mAsg (g : MG) (e : ME) : MS := fun ρ h => bndS ρ (e ρ h) fun w h1 => match g w ρ with
  | some ρ1 => some (.nx ρ1 h1)
  | none => none
theorem w_asg {g : MG} {e : ME} : ∀ D σ H, tS G Wx (mAsg g e) D σ H → tAsg (tE G Wx e) (tG G g) D σ H := fun D σ H ⟨μ, ρ, h, s, p⟩ =>
  ⟨μ, ρ, h, s, (PostS.bnd s p).mono fun μ1 h1 H1 w gr q v r => by
    cases e1 : g w ρ with
    | none => rw [e1] at q; exact False.elim q
    | some ρ1 =>
      rw [e1] at q
      exact ⟨μ1, ρ, h1, w, ρ1, s.on gr, r, e1, fun σ' s' => q μ1 σ' H1 (Gr.refl gr.rel) s'⟩⟩

/-! ### for -/
open Classical in
/-- over known items; chk is asked ahead of each turn and at the end -/
noncomputable def forC (chk : Hm → Prop) (g : MG) (body : MS) : List U → MS
  | [], ρ, h => if chk h then some (.nx ρ h) else none
  | w :: ws, ρ, h => if chk h then match g w ρ with
      | none => none
      | some ρ1 => match body ρ1 h with
        | some (.nx ρ2 h2) => forC chk g body ws ρ2 h2
        | some (.ct ρ2 h2) => forC chk g body ws ρ2 h2
        | some (.bk ρ2 h2) => some (.nx ρ2 h2)
        | r => r
    else none
theorem forC_nil {chk : Hm → Prop} {g : MG} {body : MS} {ρ : Ev} {h : Hm} (c : chk h) : forC chk g body [] ρ h = some (.nx ρ h) := by
  unfold forC
  rw [if_pos c]
theorem forC_cons {chk : Hm → Prop} {g : MG} {body : MS} {ρ ρ1 : Ev} {h : Hm} {w : U} {ws : List U} (c : chk h) (e : g w ρ = some ρ1) : forC chk g body (w :: ws) ρ h = (match body ρ1 h with
        | some (.nx ρ2 h2) => forC chk g body ws ρ2 h2
        | some (.ct ρ2 h2) => forC chk g body ws ρ2 h2
        | some (.bk ρ2 h2) => some (.nx ρ2 h2)
        | r => r) := by
  conv => lhs; unfold forC
  rw [if_pos c, e]

/-- what an iterator gives: the items, while chk stands -/
def Gives (G : Gm) (J : It) (items : List U) (chk : Hm → Prop) (μ1 : Nat → Addr) (h1 : Hm) (H1 : Hp) : Prop :=
  ∀ (i : Nat) μ h H, Gr G μ1 h1 H1 μ h H → chk h →
    (items.length ≤ i → J.stop i H) ∧ (∀ w, items[i]? = some w → J.go i H ∧ ∀ x H', J.yld i H x H' → Gr G μ h H μ h H' ∧ RU G.K μ h.length H' w x)
theorem for_ok {g : MG} {body : MS} {J : It} {items : List U} {chk : Hm → Prop} {μ1 : Nat → Addr} {h1 : Hm} {H1 : Hp} (gv : Gives G J items chk μ1 h1 H1) (s : StOk G μ1 ρ h1 σ H1) (p : PostS G Wx D μ1 h1 H1 (forC chk g body items ρ h1)) :
    ∃ W : Nat → Nat → St → Hp → Prop, (∃ m, W 0 m σ H1) ∧ ∀ i m σ H, W i m σ H →
      (J.stop i H ∧ D.nx σ H) ∨ (J.go i H ∧ ∃ N : St → Hp → Prop, (∀ σ' H', N σ' H' → ∃ m', m' < m ∧ W (i + 1) m' σ' H') ∧ ∀ x H', J.yld i H x H' → tG G g x σ H' fun σ2 H2 => tS G Wx body { D with nx := N, ct := N, bk := D.nx } σ2 H2) := by
  refine ⟨fun i m σ H => m = items.length - i ∧ i ≤ items.length ∧ ∃ μ ρ h, Gr G μ1 h1 H1 μ h H ∧ StOk G μ ρ h σ H ∧ PostS G Wx D μ h H (forC chk g body (items.drop i) ρ h),
    ⟨items.length, by simp, Nat.zero_le _, μ1, ρ, h1, Gr.refl s.rel, s, by simpa using p⟩, ?_⟩
  rintro i m σ H ⟨rfl, hi, μ, ρ, h, gr, s, p⟩
  by_cases hlt : i < items.length
  · have hd : items.drop i = items[i] :: items.drop (i + 1) := List.drop_eq_getElem_cons hlt
    rw [hd] at p
    unfold forC at p
    by_cases hc : chk h
    · rw [if_pos hc] at p
      obtain ⟨_, q⟩ := gv i μ h H gr hc
      obtain ⟨go, yl⟩ := q items[i] (by simp [hlt])
      cases e1 : g items[i] ρ with
      | none => rw [e1] at p; exact False.elim p
      | some ρ1 =>
        rw [e1] at p
        simp only at p
        refine .inr ⟨go, fun σ' H' => ∃ μ ρ h, Gr G μ1 h1 H1 μ h H' ∧ StOk G μ ρ h σ' H' ∧ PostS G Wx D μ h H' (forC chk g body (items.drop (i + 1)) ρ h), fun σ' H' z => ⟨items.length - (i + 1), by omega, rfl, by omega, z⟩, fun x H' y => ?_⟩
        obtain ⟨g2, r2⟩ := yl x H' y
        refine ⟨μ, ρ, h, items[i], ρ1, s.on g2, r2, e1, fun σ' s' => ⟨μ, ρ1, h, s', ?_⟩⟩
        have p := p.on g2
        cases e2 : body ρ1 h with
        | none => rw [e2] at p; exact p
        | some r =>
          rw [e2] at p
          cases r with
          | nx ρ2 h2 => exact fun μ3 σ3 H3 g3 s3 => ⟨μ3, ρ2, h2, (gr.trans g2).trans g3, s3, PostS.on p g3⟩
          | ct ρ2 h2 => exact fun μ3 σ3 H3 g3 s3 => ⟨μ3, ρ2, h2, (gr.trans g2).trans g3, s3, PostS.on p g3⟩
          | bk ρ2 h2 => exact p
          | rt w h2 => exact p
          | ex c fs ρ2 h2 => exact p
    · rw [if_neg hc] at p
      exact False.elim p
  · have e : i = items.length := by omega
    subst e
    rw [List.drop_length] at p
    unfold forC at p
    by_cases hc : chk h
    · rw [if_pos hc] at p
      exact .inl ⟨(gv _ μ h H gr hc).1 (Nat.le_refl _), p μ σ H (Gr.refl s.rel) s⟩
    · rw [if_neg hc] at p
      exact False.elim p

/-- what is walked: the items, what must stand -/
abbrev MI := Ev → Hm → Option (Rz (List U × (Hm → Prop)))
def tI (G : Gm) (Wx : WX) (m : MI) : TI := fun σ H R => ∃ μ ρ h, StOk G μ ρ h σ H ∧
  Post G (fun μ1 h1 H1 a => ∀ J, Gives G J a.1 a.2 μ1 h1 H1 → R J H1) (fun cls d H' => Wx cls d σ H') μ h H (m ρ h)
theorem _root_.L2.PI.weak {X : Cx} {tg e : Expr} {t t' : TI} (h : PI X tg e t) (w : ∀ σ H Q, t' σ H Q → t σ H Q) : PI X tg e t' := by
  obtain ⟨h⟩ := h
  exact ⟨fun pins s σ H R I q => h pins s σ H R I (w σ H R q)⟩
noncomputable def mFor (it : MI) (g : MG) (body : MS) : MS := fun ρ h => bndS ρ (it ρ h) fun a h1 => forC a.2 g body a.1 ρ h1
theorem w_for {it : MI} {g : MG} {body : MS} : ∀ D σ H, tS G Wx (mFor it g body) D σ H → tFor (tI G Wx it) (tG G g) (tS G Wx body) D σ H := fun D σ H ⟨μ, ρ, h, s, p⟩ =>
  ⟨μ, ρ, h, s, (PostS.bnd s p).mono fun μ1 h1 H1 a gr q J gv => for_ok gv (s.on gr) q⟩
def iL (e : ME) : MI := fun ρ h => bnd (e ρ h) fun w h1 => match w with
  | .ref i => match h1[i]? with
    | some (.lst ws) => some (.ok (ws, fun h => h[i]? = some (.lst ws)) h1)
    | some (.frz ws) => some (.ok (ws, fun h => h[i]? = some (.frz ws)) h1)
    | _ => none
  | _ => none
def iT (e : ME) : MI := fun ρ h => bnd (e ρ h) fun w h1 => match w with
  | .tup ws => some (.ok (ws, fun _ => True) h1)
  | _ => none
theorem rz_sqL {i : Nat} {ws : List U} (r : HRel G μ h H) (e : h[i]? = some (.lst ws) ∨ h[i]? = some (.frz ws)) : ∃ xs, SqL G.K H (μ i) xs ∧ RUs G.K μ h.length H ws xs := by
  rcases e with e | e
  · obtain ⟨xs, s, rs⟩ := r.cell _ _ e
    exact ⟨xs, SqL.of s, rs⟩
  · obtain ⟨xs, s, rs⟩ := r.cell _ _ e
    exact ⟨xs, s.sql, rs⟩
theorem sq_uniq {K : PySem.W.Frag} {a : Addr} {xs ys : List V} (h1 : SqT K H a xs) (h2 : SqT K H a ys) (n : H a ≠ none ∨ True) : True := trivial
theorem gives_list {i : Nat} {ws : List U} {c : Cell} (hc : c = .lst ws ∨ c = .frz ws) (hi : i < h.length) : Gives G (Itl G.K (μ i)) ws (fun h => h[i]? = some c) μ h H := by
  intro j μ2 h2 H2 gr ck
  have em : μ2 i = μ i := gr.mu i hi
  have e2 : h2[i]? = some (.lst ws) ∨ h2[i]? = some (.frz ws) := by
    rcases hc with rfl | rfl
    · exact .inl ck
    · exact .inr ck
  obtain ⟨xs, sq, rs⟩ := rz_sqL gr.rel e2
  rw [em] at sq
  refine ⟨fun hj => ⟨xs, sq, by rw [RUs.length rs]; exact hj⟩, fun w hw => ?_⟩
  obtain ⟨v, ev, rv⟩ := RUs.get rs hw
  refine ⟨⟨xs, v, sq, ev⟩, fun x H' y => ?_⟩
  obtain ⟨eH, y⟩ := y
  subst eH
  have := y xs sq
  rw [ev] at this
  cases this
  exact ⟨Gr.refl gr.rel, rv⟩
theorem gives_tup {a : Addr} {xs : List V} {ws : List U} (st : SqT G.K H a xs) (rs : RUs G.K μ h.length H ws xs) : Gives G (Itt G.K a) ws (fun _ => True) μ h H := by
  intro j μ2 h2 H2 gr ck
  have sq := gr.tup a xs st
  have rs := gr.rus rs
  refine ⟨fun hj => ⟨xs, sq, by rw [RUs.length rs]; exact hj⟩, fun w hw => ?_⟩
  obtain ⟨v, ev, rv⟩ := RUs.get rs hw
  refine ⟨⟨xs, v, sq, ev⟩, fun x H' y => ?_⟩
  obtain ⟨eH, y⟩ := y
  subst eH
  have := y xs sq
  rw [ev] at this
  cases this
  exact ⟨Gr.refl gr.rel, rv⟩
theorem w_iL {e : ME} : ∀ σ H R, tI G Wx (iL e) σ H R → iList G.K (tE G Wx e) σ H R := fun σ H R ⟨μ, ρ, h, s, p⟩ =>
  ⟨μ, ρ, h, s, (Post.bnd p).mono fun μ1 h1 H1 w g q v r => by
    cases w with
    | ref i =>
      simp only at q
      simp only [RU] at r
      obtain ⟨hi, rfl⟩ := r
      cases ec : h1[i]? with
      | none => rw [ec] at q; exact False.elim q
      | some c =>
        rw [ec] at q
        cases c with
        | lst ws =>
          obtain ⟨xs, sq, rs⟩ := rz_sqL g.rel (.inl ec)
          exact ⟨μ1 i, rfl, ⟨xs, sq⟩, q μ1 H1 (Gr.refl g.rel) _ (gives_list (.inl rfl) hi)⟩
        | frz ws =>
          obtain ⟨xs, sq, rs⟩ := rz_sqL g.rel (.inr ec)
          exact ⟨μ1 i, rfl, ⟨xs, sq⟩, q μ1 H1 (Gr.refl g.rel) _ (gives_list (.inr rfl) hi)⟩
        | ins _ _ => exact False.elim q
        | exc _ _ => exact False.elim q
    | _ => exact False.elim q⟩
theorem w_iT {e : ME} : ∀ σ H R, tI G Wx (iT e) σ H R → iTup G.K (tE G Wx e) σ H R := fun σ H R ⟨μ, ρ, h, s, p⟩ =>
  ⟨μ, ρ, h, s, (Post.bnd p).mono fun μ1 h1 H1 w g q v r => by
    cases w with
    | tup ws =>
      simp only at q
      simp only [RU] at r
      obtain ⟨a, xs, rfl, st, rs⟩ := r
      exact ⟨a, rfl, ⟨xs, st⟩, q μ1 H1 (Gr.refl g.rel) _ (gives_tup st rs)⟩
    | _ => exact False.elim q⟩
end
end ML

set_option maxHeartbeats 4000000
namespace ML
open PySem L2
section
variable {G : Gm} {Wx : WX} {μ μ' : Nat → Addr} {h h' : Hm} {H H' : Hp} {ρ : Ev} {σ : St}

/-! ### names, constants -/
def mVar (i : Nat) : ME := fun ρ h => match ρ[i]? with
  | some (some w) => some (.ok w h)
  | _ => none
def mC (w : U) : ME := fun _ h => some (.ok w h)
theorem w_var {i : Nat} : ∀ σ H Q, tE G Wx (mVar i) σ H Q → tVar i σ H Q := fun σ H Q ⟨μ, ρ, h, s, p⟩ => by
  unfold mVar at p
  cases e : ρ[i]? with
  | none => rw [e] at p; exact False.elim p
  | some o =>
    rw [e] at p
    cases o with
    | none => exact False.elim p
    | some w =>
      obtain ⟨v, ev, r⟩ := s.slot i w e
      exact ⟨v, ev, Post.ok s.rel p v r⟩
theorem w_non : ∀ σ H Q, tE G Wx (mC .non) σ H Q → tC .non σ H Q := fun σ H Q ⟨μ, ρ, h, s, p⟩ => Post.ok s.rel p _ rfl
theorem w_int {i : Int} : ∀ σ H Q, tE G Wx (mC (.int i)) σ H Q → tC (.int i) σ H Q := fun σ H Q ⟨μ, ρ, h, s, p⟩ => Post.ok s.rel p _ rfl
theorem w_bl {i : Bool} : ∀ σ H Q, tE G Wx (mC (.bl i)) σ H Q → tC (.bl i) σ H Q := fun σ H Q ⟨μ, ρ, h, s, p⟩ => Post.ok s.rel p _ rfl
theorem w_str {i : Str} : ∀ σ H Q, tE G Wx (mC (.str i)) σ H Q → tC (.str i) σ H Q := fun σ H Q ⟨μ, ρ, h, s, p⟩ => Post.ok s.rel p _ rfl

/-! ### operations of values -/
abbrev O2 := U → U → Hm → Option (Rz U)
def PV (G : Gm) (Q : VK) : (Nat → Addr) → Hm → Hp → U → Prop := fun μ' h' H' w => ∀ v, RU G.K μ' h'.length H' w v → Q v H'
def OpC (G : Gm) (f : O2) (r : R2) : Prop := ∀ (E : XK) μ h H wx wy x y Q, HRel G μ h H → RU G.K μ h.length H wx x → RU G.K μ h.length H wy y → Post G (PV G Q) E μ h H (f wx wy h) → r x y H Q
def mOp (f : O2) (a b : ME) : ME := fun ρ h => bnd (a ρ h) fun x h1 => bnd (b ρ h1) fun y h2 => f x y h2
theorem w_op {f : O2} {r : R2} {a b : ME} (c : OpC G f r) : ∀ σ H Q, tE G Wx (mOp f a b) σ H Q → tOp r (tE G Wx a) (tE G Wx b) σ H Q := fun σ H Q ⟨μ, ρ, h, s, p⟩ =>
  ⟨μ, ρ, h, s, (Post.bnd p).mono fun μ1 h1 H1 wx g1 q1 x rx => ⟨μ1, ρ, h1, s.on g1, (Post.bnd q1).mono fun μ2 h2 H2 wy g2 q2 y ry => c _ μ2 h2 H2 wx wy x y Q g2.rel (g2.ru rx) ry q2⟩⟩
theorem OpC.or {f g : O2} {r r' : R2} (c : OpC G f r) (d : OpC G g r') : OpC G (fun x y h => match f x y h with | some z => some z | none => g x y h) (fun x y H Q => r x y H Q ∨ r' x y H Q) := fun E μ h H wx wy x y Q rel rx ry p => by
  cases e : f wx wy h with
  | none => simp only [e] at p; exact .inr (d E μ h H wx wy x y Q rel rx ry p)
  | some z => simp only [e] at p; exact .inl (c E μ h H wx wy x y Q rel rx ry (by rw [e]; exact p))

/-- two whole numbers -/
def oI (C : Int → Int → Bool) (g : Int → Int → U) : O2 := fun x y h => match x, y with
  | .int i, .int j => if C i j = true then some (.ok (g i j) h) else none
  | _, _ => none
theorem oI_ok {C : Int → Int → Bool} {g : Int → Int → U} {D : Int → Int → Prop} {g' : Int → Int → V} (hd : ∀ i j, C i j = true → D i j) (hg : ∀ i j K μ n H, RU K μ n H (g i j) (g' i j)) : OpC G (oI C g) (rI D g') := fun E μ h H wx wy x y Q rel rx ry p => by
  cases wx with
  | int i =>
    cases wy with
    | int j =>
      simp only [RU] at rx ry
      subst rx ry
      unfold oI at p
      simp only at p
      split at p
      · rename_i hc
        exact ⟨i, j, rfl, rfl, hd i j hc, Post.ok rel p _ (hg i j _ _ _ _)⟩
      · exact False.elim p
    | _ => exact False.elim p
  | _ => exact False.elim p
def oI0 (g : Int → Int → U) : O2 := fun x y h => match x, y with
  | .int i, .int j => some (.ok (g i j) h)
  | _, _ => none
theorem oI0_ok {g : Int → Int → U} {g' : Int → Int → V} (hg : ∀ i j K μ n H, RU K μ n H (g i j) (g' i j)) : OpC G (oI0 g) (rI0 g') := fun E μ h H wx wy x y Q rel rx ry p => by
  cases wx with
  | int i =>
    cases wy with
    | int j =>
      simp only [RU] at rx ry
      subst rx ry
      exact ⟨i, j, rfl, rfl, Post.ok rel p _ (hg i j _ _ _ _)⟩
    | _ => exact False.elim p
  | _ => exact False.elim p
abbrev oAddI : O2 := oI0 fun i j => .int (i + j)
abbrev oSub : O2 := oI0 fun i j => .int (i - j)
def cMul (i j : Int) : Bool := (decide (-(2 ^ 64) < i) && decide (i < 2 ^ 64)) || (decide (-(2 ^ 64) < j) && decide (j < 2 ^ 64))
def cDivN (i j : Int) : Bool := decide (j ≠ 0) && decide (j.natAbs < 1073741824)
def cPow (i j : Int) : Bool := decide (0 ≤ j) && (decide (j ≤ 1000000) && decide (i.natAbs < 2 ^ 64))
abbrev oMul : O2 := oI cMul fun i j => .int (i * j)
abbrev oDiv : O2 := oI cDivN fun i j => .int (i.fdiv j)
abbrev oMod : O2 := oI (fun _ j => decide (j ≠ 0)) fun i j => .int (i.fmod j)
abbrev oPow : O2 := oI cPow fun i j => .int (i ^ j.toNat)
theorem oAddI_ok : OpC G oAddI (rI0 fun i j => .int (i + j)) := oI0_ok fun _ _ _ _ _ _ => rfl
theorem oSub_ok : OpC G oSub (rI0 fun i j => .int (i - j)) := oI0_ok fun _ _ _ _ _ _ => rfl
theorem oMul_ok : OpC G oMul (rI CMul fun i j => .int (i * j)) := oI_ok (fun i j hc => by
  unfold cMul at hc
  simp only [Bool.or_eq_true, Bool.and_eq_true, decide_eq_true_eq] at hc
  exact hc) fun _ _ _ _ _ _ => rfl
theorem oDiv_ok : OpC G oDiv (rI CDivN fun i j => .int (i.fdiv j)) := oI_ok (fun i j hc => by
  unfold cDivN at hc
  simp only [Bool.and_eq_true, decide_eq_true_eq] at hc
  exact hc) fun _ _ _ _ _ _ => rfl
theorem oMod_ok : OpC G oMod (rI (fun _ j => j ≠ 0) fun i j => .int (i.fmod j)) := oI_ok (fun i j hc => of_decide_eq_true hc) fun _ _ _ _ _ _ => rfl
theorem oPow_ok : OpC G oPow (rI CPow fun i j => .int (i ^ j.toNat)) := oI_ok (fun i j hc => by
  unfold cPow at hc
  simp only [Bool.and_eq_true, decide_eq_true_eq] at hc
  exact hc) fun _ _ _ _ _ _ => rfl
abbrev oLt : O2 := oI0 fun i j => .bl (decide (i < j))
abbrev oLe : O2 := oI0 fun i j => .bl (decide (i ≤ j))
abbrev oGt : O2 := oI0 fun i j => .bl (decide (j < i))
abbrev oGe : O2 := oI0 fun i j => .bl (decide (j ≤ i))
theorem oLt_ok : OpC G oLt (rI0 fun i j => .bl (decide (i < j))) := oI0_ok fun _ _ _ _ _ _ => rfl
theorem oLe_ok : OpC G oLe (rI0 fun i j => .bl (decide (i ≤ j))) := oI0_ok fun _ _ _ _ _ _ => rfl
theorem oGt_ok : OpC G oGt (rI0 fun i j => .bl (decide (j < i))) := oI0_ok fun _ _ _ _ _ _ => rfl
theorem oGe_ok : OpC G oGe (rI0 fun i j => .bl (decide (j ≤ i))) := oI0_ok fun _ _ _ _ _ _ => rfl

def LIM : Nat := 1000000
theorem lim_le {n : Nat} (h : n ≤ LIM) : n ≤ sizeLine := Nat.le_trans h (by show 1000000 ≤ sizeLine; decide)
/-- texts -/
def oAddS : O2 := fun x y h => match x, y with
  | .str i, .str j => if i.length + j.length ≤ LIM then some (.ok (.str (i ++ j)) h) else none
  | _, _ => none
theorem oAddS_ok : OpC G oAddS (fun x y H Q => ∃ i j, x = .str i ∧ y = .str j ∧ i.length + j.length ≤ sizeLine ∧ Q (.str (i ++ j)) H) := fun E μ h H wx wy x y Q rel rx ry p => by
  cases wx with
  | str i =>
    cases wy with
    | str j =>
      simp only [RU] at rx ry
      subst rx ry
      unfold oAddS at p
      simp only at p
      split at p
      · rename_i hc
        exact ⟨i, j, rfl, rfl, lim_le hc, Post.ok rel p _ rfl⟩
      · exact False.elim p
    | _ => exact False.elim p
  | _ => exact False.elim p
/-- lists -/
def oAddL : O2 := fun x y h => match x, y with
  | .ref l, .ref b => match h[l]?, h[b]? with
    | some (.lst xs), some (.lst ys) => if xs.length + ys.length ≤ LIM then some (.ok (.ref h.length) (h ++ [.lst (xs ++ ys)])) else none
    | _, _ => none
  | _, _ => none
theorem oAddL_ok : OpC G oAddL rCat := fun E μ h H wx wy x y Q rel rx ry p => by
  cases wx with
  | ref l =>
    cases wy with
    | ref b =>
      simp only [RU] at rx ry
      obtain ⟨hl, rfl⟩ := rx
      obtain ⟨hb, rfl⟩ := ry
      unfold oAddL at p
      simp only at p
      split at p
      · rename_i xs ys e1 e2
        split at p
        · rename_i hc
          obtain ⟨vs, s1, r1⟩ := rel.cell l _ e1
          obtain ⟨us, s2, r2⟩ := rel.cell b _ e2
          refine ⟨μ l, μ b, vs, us, rfl, rfl, s1, s2, by rw [RUs.length r1, RUs.length r2]; exact lim_le hc, fun q hq => ?_⟩
          have rr : RUs G.K (nu μ h.length q) (h.length + 1) (upd H q (.lst (vs ++ us))) (xs ++ ys) (vs ++ us) := RUs.mono (fun i hi => nu_old hi) (Nat.le_succ _) (TS0.fresh hq) _ _ (r1.append r2)
          have g := Gr.new (o := .lst (vs ++ us)) (c := .lst (xs ++ ys)) rel hq ⟨_, upd_same, rr⟩
          exact p _ _ g _ (by simp only [RU]; exact ⟨by simp, by rw [nu_new]⟩)
        · exact False.elim p
      · exact False.elim p
    | _ => exact False.elim p
  | _ => exact False.elim p
/-- list * int -/
def oRep : O2 := fun x y h => match x, y with
  | .ref l, .int k => match h[l]? with
    | some (.lst xs) => if (decide (k ≤ 1000000) && decide (-1000000 ≤ k)) && decide (xs.length * k.toNat ≤ LIM) = true then some (.ok (.ref h.length) (h ++ [.lst (List.replicate k.toNat xs).flatten])) else none
    | _ => none
  | _, _ => none
theorem RUs.rep {K : PySem.W.Frag} {n : Nat} {ws : List U} {xs : List V} (r : RUs K μ n H ws xs) : ∀ k : Nat, RUs K μ n H (List.replicate k ws).flatten (List.replicate k xs).flatten
  | 0 => by simp [RUs]
  | k + 1 => by
    simp only [List.replicate_succ, List.flatten_cons]
    exact r.append (RUs.rep r k)
theorem oRep_ok : OpC G oRep rRep := fun E μ h H wx wy x y Q rel rx ry p => by
  cases wx with
  | ref l =>
    cases wy with
    | int k =>
      simp only [RU] at rx ry
      obtain ⟨hl, rfl⟩ := rx
      subst ry
      unfold oRep at p
      simp only at p
      split at p
      · rename_i xs e1
        split at p
        · rename_i hc
          simp only [Bool.and_eq_true, decide_eq_true_eq] at hc
          obtain ⟨vs, s1, r1⟩ := rel.cell l _ e1
          refine ⟨μ l, k, vs, rfl, rfl, s1, by omega, by omega, by rw [RUs.length r1]; exact lim_le hc.2, fun q hq => ?_⟩
          have rr := RUs.mono (μ' := nu μ h.length q) (n' := h.length + 1) (H' := upd H q (.lst (List.replicate k.toNat vs).flatten)) (fun i hi => nu_old hi) (Nat.le_succ _) (TS0.fresh hq) _ _ (r1.rep k.toNat)
          have g := Gr.new (o := .lst (List.replicate k.toNat vs).flatten) (c := .lst (List.replicate k.toNat xs).flatten) rel hq ⟨_, upd_same, rr⟩
          exact p _ _ g _ (by simp only [RU]; exact ⟨by simp, by rw [nu_new]⟩)
        · exact False.elim p
      · exact False.elim p
    | _ => exact False.elim p
  | _ => exact False.elim p
/-- tuples -/
def oAddT : O2 := fun x y h => match x, y with
  | .tup xs, .tup ys => if (decide (xs.length ≠ 0) && decide (xs.length + ys.length ≤ LIM)) = true then some (.ok (.tup (xs ++ ys)) h) else none
  | _, _ => none
end
end ML

set_option maxHeartbeats 4000000
namespace ML
open PySem L2
section
variable {G : Gm} {Wx : WX} {μ μ' : Nat → Addr} {h h' : Hm} {H H' : Hp} {ρ : Ev} {σ : St}

/-! ### == of scalars -/
def sEq : U → U → Option Bool
  | .non, .non => some true
  | .non, .int _ => some false | .int _, .non => some false
  | .non, .bl _ => some false | .bl _, .non => some false
  | .non, .str _ => some false | .str _, .non => some false
  | .int a, .int b => some (decide (a = b))
  | .bl a, .bl b => some (decide (a = b))
  | .str a, .str b => some (decide (a = b))
  | .int _, .str _ => some false | .str _, .int _ => some false
  | .bl _, .str _ => some false | .str _, .bl _ => some false
  | _, _ => none
theorem sEq_ok {K : PySem.W.Frag} {n : Nat} {x y : U} {v u : V} {b : Bool} (e : sEq x y = some b) (rx : RU K μ n H x v) (ry : RU K μ n H y u) : scal v u = true ∧ decide (v = u) = b := by
  cases x <;> cases y <;> first | (cases e; done) | skip
  all_goals
    simp only [RU] at rx ry
    subst rx ry
    simp only [sEq, Option.some.injEq] at e
    subst e
    refine ⟨rfl, ?_⟩
    first
      | rfl
      | (simp; done)
def oEqS (neg : Bool) : O2 := fun x y h => match sEq x y with
  | some b => some (.ok (.bl (b != neg)) h)
  | none => none
theorem oEqS_ok : OpC G (oEqS false) rEq := fun E μ h H wx wy x y Q rel rx ry p => by
  unfold oEqS at p
  cases e : sEq wx wy with
  | none => rw [e] at p; exact False.elim p
  | some b =>
    rw [e] at p
    obtain ⟨h1, h2⟩ := sEq_ok e rx ry
    refine ⟨h1, Post.ok rel p _ ?_⟩
    rw [h2]
    cases b <;> rfl
theorem oNeS_ok : OpC G (oEqS true) rNe := fun E μ h H wx wy x y Q rel rx ry p => by
  unfold oEqS at p
  cases e : sEq wx wy with
  | none => rw [e] at p; exact False.elim p
  | some b =>
    rw [e] at p
    obtain ⟨h1, h2⟩ := sEq_ok e rx ry
    refine ⟨h1, Post.ok rel p _ ?_⟩
    rw [h2]
    cases b <;> rfl

/-! ### == of data -/
mutual
def dW (f : Nat → Option PyData) : U → Option PyData
  | .non => some .none
  | .bl b => some (.bool b)
  | .int i => some (.int i)
  | .str x => some (.str x)
  | .ref i => f i
  | .tup ws => match dWs f ws with
    | some ds => some (.tuple ds)
    | none => none
def dWs (f : Nat → Option PyData) : List U → Option (List PyData)
  | [] => some []
  | w :: ws => match dW f w, dWs f ws with
    | some d, some ds => some (d :: ds)
    | _, _ => none
end
def rd (h : Hm) (i : Nat) : Option (List U) := match h[i]? with
  | some (.lst ws) => some ws
  | some (.frz ws) => some ws
  | _ => none
theorem rd_ok {i : Nat} {ws : List U} (r : HRel G μ h H) (e : rd h i = some ws) : ∃ xs, SqL G.K H (μ i) xs ∧ RUs G.K μ h.length H ws xs := by
  unfold rd at e
  split at e
  · rename_i ws' ec; cases e; exact rz_sqL r (.inl ec)
  · rename_i ws' ec; cases e; exact rz_sqL r (.inr ec)
  · cases e
/-- data at a list: n levels of lists -/
def dR : Nat → Hm → Nat → Option PyData
  | 0, _, _ => none
  | n + 1, h, i => match rd h i with
    | some ws => match dWs (dR n h) ws with
      | some ds => some (.list ds)
      | none => none
    | none => none
def DF (G : Gm) (μ : Nat → Addr) (H : Hp) (f : Nat → Option PyData) : Prop := ∀ i d, f i = some d → Dp G.K H (.ref (μ i)) d
mutual
theorem dW_ok {f : Nat → Option PyData} (hf : DF G μ H f) : ∀ (w : U) (v : V) (d : PyData), dW f w = some d → RU G.K μ h.length H w v → Dp G.K H v d
  | .non, v, d, e, r => by simp only [dW] at e; simp only [RU] at r; cases e; subst r; exact .non
  | .bl b, v, d, e, r => by simp only [dW] at e; simp only [RU] at r; cases e; subst r; exact .bl b
  | .int i, v, d, e, r => by simp only [dW] at e; simp only [RU] at r; cases e; subst r; exact .int i
  | .str x, v, d, e, r => by simp only [dW] at e; simp only [RU] at r; cases e; subst r; exact .str x
  | .ref i, v, d, e, r => by
    simp only [dW] at e
    simp only [RU] at r
    obtain ⟨_, rfl⟩ := r
    exact hf i d e
  | .tup ws, v, d, e, r => by
    simp only [dW] at e
    simp only [RU] at r
    obtain ⟨a, xs, rfl, st, rs⟩ := r
    cases e2 : dWs f ws with
    | none => rw [e2] at e; cases e
    | some ds => rw [e2] at e; cases e; exact .tup st (dWs_ok hf ws xs ds e2 rs)
theorem dWs_ok {f : Nat → Option PyData} (hf : DF G μ H f) : ∀ (ws : List U) (vs : List V) (ds : List PyData), dWs f ws = some ds → RUs G.K μ h.length H ws vs → DpAll G.K H vs ds
  | [], vs, ds, e, r => by simp only [dWs] at e; simp only [RUs] at r; cases e; subst r; exact .nil
  | w :: ws, vs, ds, e, r => by
    simp only [dWs] at e
    simp only [RUs] at r
    obtain ⟨y, ys, rfl, r1, rs⟩ := r
    cases e1 : dW f w with
    | none => rw [e1] at e; cases e
    | some d =>
      cases e2 : dWs f ws with
      | none => rw [e1, e2] at e; cases e
      | some ds2 =>
        rw [e1, e2] at e
        cases e
        exact .cons (dW_ok hf w y d e1 r1) (dWs_ok hf ws ys ds2 e2 rs)
end
theorem dR_ok (rel : HRel G μ h H) : ∀ n, DF G μ H (dR n h)
  | 0, i, d, e => by cases e
  | n + 1, i, d, e => by
    unfold dR at e
    cases e1 : rd h i with
    | none => rw [e1] at e; cases e
    | some ws =>
      rw [e1] at e
      simp only at e
      cases e2 : dWs (dR n h) ws with
      | none => rw [e2] at e; cases e
      | some ds =>
        rw [e2] at e
        cases e
        obtain ⟨xs, sq, rs⟩ := rd_ok rel e1
        exact .lst sq (dWs_ok (h := h) (dR_ok rel n) ws xs ds e2 rs)
/-- n levels of lists -/
def oEqD (neg : Bool) (n : Nat) : O2 := fun x y h => match dW (dR n h) x, dW (dR n h) y with
  | some d, some e => if (SeqAt.shaped d && SeqAt.shaped e) = true then some (.ok (.bl (PyData.eqv d e != neg)) h) else none
  | _, _ => none
theorem oEqD_ok {n : Nat} : OpC G (oEqD false n) (rEqD G.K) := fun E μ h H wx wy x y Q rel rx ry p => by
  unfold oEqD at p
  split at p
  · rename_i d e e1 e2
    split at p
    · rename_i hc
      simp only [Bool.and_eq_true] at hc
      refine ⟨d, e, dW_ok (dR_ok rel n) _ _ _ e1 rx, dW_ok (dR_ok rel n) _ _ _ e2 ry, hc.1, hc.2, Post.ok rel p _ ?_⟩
      simp [RU]
    · exact False.elim p
  · exact False.elim p
theorem oNeD_ok {n : Nat} : OpC G (oEqD true n) (rNeD G.K) := fun E μ h H wx wy x y Q rel rx ry p => by
  unfold oEqD at p
  split at p
  · rename_i d e e1 e2
    split at p
    · rename_i hc
      simp only [Bool.and_eq_true] at hc
      refine ⟨d, e, dW_ok (dR_ok rel n) _ _ _ e1 rx, dW_ok (dR_ok rel n) _ _ _ e2 ry, hc.1, hc.2, Post.ok rel p _ ?_⟩
      simp [RU]
    · exact False.elim p
  · exact False.elim p

/-! ### is None -/
def isNon : U → Bool
  | .non => true
  | _ => false
theorem isNon_ok {K : PySem.W.Frag} {n : Nat} {x : U} {v : V} (r : RU K μ n H x v) : decide (v = .non) = isNon x := by
  cases x <;> simp only [RU] at r
  case ref i => obtain ⟨_, rfl⟩ := r; simp [isNon]
  case tup ws => obtain ⟨a, xs, rfl, _⟩ := r; simp [isNon]
  all_goals (subst r; simp [isNon])
def mIsN (neg : Bool) (a : ME) : ME := fun ρ h => bnd (a ρ h) fun x h1 => some (.ok (.bl (isNon x != neg)) h1)
theorem w_isN {a : ME} : ∀ σ H Q, tE G Wx (mIsN false a) σ H Q → tIsN (tE G Wx a) σ H Q := fun σ H Q ⟨μ, ρ, h, s, p⟩ =>
  ⟨μ, ρ, h, s, (Post.bnd p).mono fun μ1 h1 H1 wx g q x rx => Post.ok g.rel q _ (by rw [isNon_ok rx]; simp [RU])⟩
theorem w_notN {a : ME} : ∀ σ H Q, tE G Wx (mIsN true a) σ H Q → tNotN (tE G Wx a) σ H Q := fun σ H Q ⟨μ, ρ, h, s, p⟩ =>
  ⟨μ, ρ, h, s, (Post.bnd p).mono fun μ1 h1 H1 wx g q x rx => Post.ok g.rel q _ (by rw [isNon_ok rx]; simp [RU])⟩

/-! ### in -/
/-- one sign in a text -/
def oInC (neg : Bool) : O2 := fun x y h => match x, y with
  | .str a, .str z => match a.cps.toList with
    | [c] => some (.ok (.bl (decide (c ∈ z.cps.toList) != neg)) h)
    | _ => none
  | _, _ => none
theorem str_one {a : Str} {c : Nat} (e : a.cps.toList = [c]) : a = ⟨#[c]⟩ := by
  cases a with
  | mk cps =>
    simp only at e
    congr
    have : cps = [c].toArray := by rw [← e]
    rw [this]
theorem oInC_ok : OpC G (oInC false) (fun x y H Q => ∃ (c : Nat) (z : Str), x = .str ⟨#[c]⟩ ∧ y = .str z ∧ Q (.bl (decide (c ∈ z.cps.toList))) H) := fun E μ h H wx wy x y Q rel rx ry p => by
  cases wx with
  | str a =>
    cases wy with
    | str z =>
      simp only [RU] at rx ry
      subst rx ry
      unfold oInC at p
      simp only at p
      split at p
      · rename_i c e
        refine ⟨c, z, by rw [str_one e], rfl, Post.ok rel p _ (by simp [RU])⟩
      · exact False.elim p
    | _ => exact False.elim p
  | _ => exact False.elim p
def flatU : U → Bool
  | .non => true | .bl _ => true | .int _ => true | .str _ => true
  | _ => false
def eqF : U → U → Bool
  | .non, .non => true
  | .bl a, .bl b => a == b
  | .bl a, .int b => (if a then 1 else 0) == b
  | .int a, .bl b => a == (if b then 1 else 0)
  | .int a, .int b => a == b
  | .str a, .str b => a == b
  | _, _ => false
theorem flatU_ok {K : PySem.W.Frag} {n : Nat} {x : U} {v : V} (f : flatU x = true) (r : RU K μ n H x v) : flatV v = true := by
  cases x <;> simp only [RU] at r <;> first | (subst r; rfl) | cases f
theorem flats_ok {K : PySem.W.Frag} {n : Nat} : ∀ {ws : List U} {vs : List V}, ws.all flatU = true → RUs K μ n H ws vs → vs.all flatV = true
  | [], vs, f, r => by simp only [RUs] at r; subst r; rfl
  | w :: ws, vs, f, r => by
    simp only [RUs] at r
    obtain ⟨y, ys, rfl, r1, rs⟩ := r
    simp only [List.all_cons, Bool.and_eq_true] at f ⊢
    exact ⟨flatU_ok f.1 r1, flats_ok f.2 rs⟩
theorem eqF_ok {K : PySem.W.Frag} {n : Nat} {x y : U} {v u : V} (f : flatU x = true) (g : flatU y = true) (r : RU K μ n H x v) (q : RU K μ n H y u) : eqV v u = eqF x y := by
  cases x <;> first | cases f | skip
  all_goals (cases y <;> first | cases g | skip)
  all_goals (simp only [RU] at r q; subst r q; rfl)
def inF (x : U) (ws : List U) : Bool := ws.any fun y => eqF y x
theorem inF_ok {K : PySem.W.Frag} {n : Nat} {x : U} {v : V} (f : flatU x = true) (r : RU K μ n H x v) : ∀ {ws : List U} {vs : List V}, ws.all flatU = true → RUs K μ n H ws vs → inV v vs = inF x ws
  | [], vs, g, q => by simp only [RUs] at q; subst q; rfl
  | w :: ws, vs, g, q => by
    simp only [RUs] at q
    obtain ⟨y, ys, rfl, r1, rs⟩ := q
    simp only [List.all_cons, Bool.and_eq_true] at g
    have ih := inF_ok f r g.2 rs
    unfold inV inF at *
    simp only [List.any_cons, ih, eqF_ok g.1 f r1 r]
def oIn (neg : Bool) : O2 := fun x y h => match (match y with
    | .tup ws => some ws
    | .ref i => rd h i
    | _ => none) with
  | some ws => if (flatU x && ws.all flatU) = true then some (.ok (.bl (inF x ws != neg)) h) else none
  | none => none
theorem oIn_ok {neg : Bool} : OpC G (oIn neg) (rIn G.K neg) := fun E μ h H wx wy x y Q rel rx ry p => by
  unfold oIn at p
  split at p
  · rename_i ws e
    split at p
    · rename_i hc
      simp only [Bool.and_eq_true] at hc
      have fin : ∀ a xs, y = .ref a → (SqL G.K H a xs ∨ SqT G.K H a xs) → RUs G.K μ h.length H ws xs → rIn G.K neg x y H Q := fun a xs ey sq rs => by
        refine ⟨a, xs, ey, sq, flatU_ok hc.1 rx, flats_ok hc.2 rs, Post.ok rel p _ ?_⟩
        rw [inF_ok hc.1 rx hc.2 rs]
        cases neg <;> simp [RU]
      cases wy with
      | tup us =>
        simp only [Option.some.injEq] at e
        subst e
        simp only [RU] at ry
        obtain ⟨a, xs, ey, st, rs⟩ := ry
        exact fin a xs ey (.inr st) rs
      | ref i =>
        simp only [RU] at ry
        obtain ⟨_, ey⟩ := ry
        obtain ⟨xs, sq, rs⟩ := rd_ok rel e
        exact fin _ xs ey (.inl sq) rs
      | _ => simp at e
    · exact False.elim p
  · exact False.elim p

/-! ### xs[i] -/
theorem RUs.atI {K : PySem.W.Frag} {n : Nat} {ws : List U} {xs : List V} {i : Int} {w : U} (r : RUs K μ n H ws xs) (e : atI ws i = some w) : ∃ v, atI xs i = some v ∧ RU K μ n H w v := by
  unfold L2.atI at e ⊢
  rw [RUs.length r]
  cases e1 : ixN ws.length i with
  | none => rw [e1] at e; cases e
  | some j =>
    rw [e1] at e
    exact RUs.get r e
def oIx : O2 := fun x y h => match x, y with
  | .ref l, .int i => match rd h l with
    | some ws => match atI ws i with
      | some w => some (.ok w h)
      | none => none
    | none => none
  | .tup ws, .int i => match atI ws i with
    | some w => some (.ok w h)
    | none => none
  | .str z, .int i => match atI z.cps.toList i with
    | some c => if z.length ≤ LIM then some (.ok (.str ⟨#[c]⟩) h) else none
    | none => none
  | _, _ => none
theorem oIx_ok : OpC G oIx (rIx G.K) := fun E μ h H wx wy x y Q rel rx ry p => by
  unfold oIx at p
  split at p
  · rename_i l i
    simp only [RU] at rx ry
    obtain ⟨_, rfl⟩ := rx
    subst ry
    split at p
    · rename_i ws e1
      split at p
      · rename_i w e2
        obtain ⟨xs, sq, rs⟩ := rd_ok rel e1
        obtain ⟨v, ev, rv⟩ := RUs.atI rs e2
        exact .inl ⟨_, xs, i, v, rfl, rfl, sq, ev, Post.ok rel p _ rv⟩
      · exact False.elim p
    · exact False.elim p
  · rename_i ws i
    simp only [RU] at rx ry
    obtain ⟨a, xs, rfl, st, rs⟩ := rx
    subst ry
    split at p
    · rename_i w e2
      obtain ⟨v, ev, rv⟩ := RUs.atI rs e2
      exact .inr (.inl ⟨_, xs, i, v, rfl, rfl, st, ev, Post.ok rel p _ rv⟩)
    · exact False.elim p
  · rename_i z i
    simp only [RU] at rx ry
    subst rx ry
    split at p
    · rename_i c e2
      split at p
      · rename_i hc
        exact .inr (.inr ⟨z, i, c, rfl, rfl, lim_le hc, e2, Post.ok rel p _ rfl⟩)
      · exact False.elim p
    · exact False.elim p
  · exact False.elim p

/-! ### slices -/
abbrev MO := Ev → Hm → Option (Rz (Option Int))
def tO (G : Gm) (Wx : WX) (m : MO) : TO := fun σ H Q => ∃ μ ρ h, StOk G μ ρ h σ H ∧ Post G (fun _ _ H' b => Q b H') (fun cls d H' => Wx cls d σ H') μ h H (m ρ h)
theorem _root_.L2.PO.weak {X : Cx} {e : Option Expr} {t t' : TO} (h : PO X e t) (w : ∀ σ H Q, t' σ H Q → t σ H Q) : PO X e t' := by
  obtain ⟨h⟩ := h
  exact ⟨fun pins s σ H Q I q => h pins s σ H Q I (w σ H Q q)⟩
def mNoPart : MO := fun _ h => some (.ok none h)
def mPart (e : ME) : MO := fun ρ h => bnd (e ρ h) fun w h1 => match w with
  | .int i => some (.ok (some i) h1)
  | _ => none
theorem w_noPart : ∀ σ H Q, tO G Wx mNoPart σ H Q → tNoPart σ H Q := fun σ H Q ⟨μ, ρ, h, s, p⟩ => Post.ok s.rel p
theorem w_part {e : ME} : ∀ σ H Q, tO G Wx (mPart e) σ H Q → tPart (tE G Wx e) σ H Q := fun σ H Q ⟨μ, ρ, h, s, p⟩ =>
  ⟨μ, ρ, h, s, (Post.bnd p).mono fun μ1 h1 H1 w g q v r => by
    cases w with
    | int i =>
      simp only [RU] at r
      exact ⟨i, r, Post.ok g.rel q⟩
    | _ => exact False.elim q⟩
def cut {α : Type} (xs : List α) (lo hi : Option Int) : List α := (xs.drop (HT.sIx xs.length 0 lo)).take (HT.sIx xs.length xs.length hi - HT.sIx xs.length 0 lo)
theorem RUs.cut {K : PySem.W.Frag} {n : Nat} {ws : List U} {xs : List V} (r : RUs K μ n H ws xs) (lo hi : Option Int) : RUs K μ n H (cut ws lo hi) (cutV xs lo hi) := by
  unfold ML.cut cutV
  rw [RUs.length r]
  exact RUs.take _ (RUs.drop _ r)
abbrev OS := U → Option Int → Option Int → Hm → Option (Rz U)
def SlC (G : Gm) (f : OS) (r : V → Option Int → Option Int → Hp → VK → Prop) : Prop := ∀ (E : XK) μ h H wx x lo hi Q, HRel G μ h H → RU G.K μ h.length H wx x → Post G (PV G Q) E μ h H (f wx lo hi h) → r x lo hi H Q
def mSl (f : OS) (e : ME) (lo hi : MO) : ME := fun ρ h => bnd (e ρ h) fun x h1 => bnd (lo ρ h1) fun l h2 => bnd (hi ρ h2) fun u h3 => f x l u h3
theorem w_sl {f : OS} {r : V → Option Int → Option Int → Hp → VK → Prop} {e : ME} {lo hi : MO} (c : SlC G f r) : ∀ σ H Q, tE G Wx (mSl f e lo hi) σ H Q → tSl r (tE G Wx e) (tO G Wx lo) (tO G Wx hi) σ H Q := fun σ H Q ⟨μ, ρ, h, s, p⟩ =>
  ⟨μ, ρ, h, s, (Post.bnd p).mono fun μ1 h1 H1 wx g1 q1 x rx => ⟨μ1, ρ, h1, s.on g1, (Post.bnd q1).mono fun μ2 h2 H2 l g2 q2 => ⟨μ2, ρ, h2, (s.on g1).on g2, (Post.bnd q2).mono fun μ3 h3 H3 u g3 q3 =>
    c _ μ3 h3 H3 wx x l u Q g3.rel ((g2.trans g3).ru rx) q3⟩⟩⟩
def oSlL : OS := fun x lo hi h => match x with
  | .ref l => match rd h l with
    | some ws => some (.ok (.ref h.length) (h ++ [.lst (cut ws lo hi)]))
    | none => none
  | _ => none
theorem oSlL_ok : SlC G oSlL (rSlL G.K) := fun E μ h H wx x lo hi Q rel rx p => by
  unfold oSlL at p
  split at p
  · rename_i l
    simp only [RU] at rx
    obtain ⟨_, rfl⟩ := rx
    split at p
    · rename_i ws e1
      obtain ⟨xs, sq, rs⟩ := rd_ok rel e1
      refine ⟨_, xs, rfl, sq, fun q hq => ?_⟩
      have rr := RUs.mono (μ' := nu μ h.length q) (n' := h.length + 1) (H' := upd H q (.lst (cutV xs lo hi))) (fun i hi => nu_old hi) (Nat.le_succ _) (TS0.fresh hq) _ _ (rs.cut lo hi)
      have g := Gr.new (o := .lst (cutV xs lo hi)) (c := .lst (cut ws lo hi)) rel hq ⟨_, upd_same, rr⟩
      exact p _ _ g _ (by simp only [RU]; exact ⟨by simp, by rw [nu_new]⟩)
    · exact False.elim p
  · exact False.elim p
def oSlT : OS := fun x lo hi h => match x with
  | .tup ws => some (.ok (.tup (cut ws lo hi)) h)
  | _ => none
theorem cut_all {α : Type} {xs : List α} {lo hi : Option Int} (e : HT.sIx xs.length 0 lo = 0 ∧ HT.sIx xs.length xs.length hi = xs.length) : cut xs lo hi = xs := by
  unfold cut
  rw [e.1, e.2]
  simp
theorem ru_tup {K : PySem.W.Frag} {n : Nat} {ws : List U} {a : Addr} {xs : List V} (s : SqT K H a xs) (r : RUs K μ n H ws xs) : RU K μ n H (.tup ws) (.ref a) := by
  simp only [RU]
  exact ⟨a, xs, rfl, s, r⟩
/-- a new tuple -/
theorem new_tup {E : XK} {Q : VK} {ws : List U} {xs : List V} (rel : HRel G μ h H) (rs : RUs G.K μ h.length H ws xs) (p : Post G (PV G Q) E μ h H (some (.ok (.tup ws) h))) : ∀ q, H q = none → Q (.ref q) (upd H q (.tup xs)) := fun q hq =>
  p μ _ (Gr.fresh rel hq) _ (ru_tup (SqT.of upd_same) (rs.same (TS0.fresh hq)))
theorem oSlT_ok : SlC G oSlT (rSlA G.K) := fun E μ h H wx x lo hi Q rel rx p => by
  unfold oSlT at p
  split at p
  · rename_i ws
    simp only [RU] at rx
    obtain ⟨a, xs, rfl, st, rs⟩ := rx
    refine ⟨a, xs, rfl, st, fun e => ?_, fun _ => new_tup rel (rs.cut lo hi) p⟩
    rw [RUs.length rs] at e
    rw [cut_all e] at p
    exact Post.ok rel p _ (ru_tup st rs)
  · exact False.elim p
def oAddT2 : O2 := fun x y h => match x, y with
  | .tup xs, .tup ys => if xs.length + ys.length ≤ LIM then some (.ok (.tup (xs ++ ys)) h) else none
  | _, _ => none
theorem oAddT2_ok : OpC G oAddT2 (rCatA G.K) := fun E μ h H wx wy x y Q rel rx ry p => by
  unfold oAddT2 at p
  split at p
  · rename_i xs ys
    simp only [RU] at rx ry
    obtain ⟨a, vs, rfl, sa, ra⟩ := rx
    obtain ⟨b, us, rfl, sb, rb⟩ := ry
    split at p
    · rename_i hc
      refine ⟨a, b, vs, us, rfl, rfl, sa, sb, by rw [RUs.length ra, RUs.length rb]; exact lim_le hc, fun e => ?_, fun _ e => ?_, fun _ _ => new_tup rel (ra.append rb) p⟩
      · have e2 : xs = [] := List.eq_nil_of_length_eq_zero (by rw [← RUs.length ra, e]; rfl)
        subst e2
        exact Post.ok rel p _ (ru_tup sb rb)
      · have e2 : ys = [] := List.eq_nil_of_length_eq_zero (by rw [← RUs.length rb, e]; rfl)
        subst e2
        rw [List.append_nil] at p
        exact Post.ok rel p _ (ru_tup sa ra)
    · exact False.elim p
  · exact False.elim p
end
end ML

set_option maxHeartbeats 4000000
namespace ML
open PySem L2
section
variable {G : Gm} {Wx : WX} {μ μ' : Nat → Addr} {h h' : Hm} {H H' : Hp} {ρ : Ev} {σ : St}

/-! ### tests -/
def toB (w : U) (h : Hm) : Option (Rz Bool) := match w with
  | .bl b => some (.ok b h)
  | _ => none
def mB (e : ME) : MT := fun ρ h => bnd (e ρ h) toB
theorem w_B {e : ME} : ∀ σ H Q, tT G Wx (mB e) σ H Q → tB (tE G Wx e) σ H Q := fun σ H Q ⟨μ, ρ, h, s, p⟩ =>
  ⟨μ, ρ, h, s, (Post.bnd p).mono fun μ1 h1 H1 w g q v r => by
    cases w with
    | bl b => simp only [RU] at r; exact ⟨b, r, Post.ok g.rel q⟩
    | _ => exact False.elim q⟩
theorem w_test {e : ME} : ∀ σ H Q, tT G Wx (mB e) σ H Q → tTest (tE G Wx e) σ H Q := fun σ H Q z => w_B σ H Q z
theorem w_testop {f : O2} {r : R2} {a b : ME} (c : OpC G f r) : ∀ σ H Q, tT G Wx (mB (mOp f a b)) σ H Q → tTest (tOp r (tE G Wx a) (tE G Wx b)) σ H Q := fun σ H Q z => w_op c σ H _ (w_B σ H Q z)
theorem w_testN {a : ME} : ∀ σ H Q, tT G Wx (mB (mIsN false a)) σ H Q → tB (tIsN (tE G Wx a)) σ H Q := fun σ H Q z => w_isN σ H _ (w_B σ H Q z)
theorem w_testNN {a : ME} : ∀ σ H Q, tT G Wx (mB (mIsN true a)) σ H Q → tB (tNotN (tE G Wx a)) σ H Q := fun σ H Q z => w_notN σ H _ (w_B σ H Q z)
def mTAnd (a b : MT) : MT := fun ρ h => bnd (a ρ h) fun c h1 => if c = true then b ρ h1 else some (.ok false h1)
def mTOr (a b : MT) : MT := fun ρ h => bnd (a ρ h) fun c h1 => if c = true then some (.ok true h1) else b ρ h1
def mTNot (a : MT) : MT := fun ρ h => bnd (a ρ h) fun c h1 => some (.ok (!c) h1)
theorem w_tand {a b : MT} : ∀ σ H Q, tT G Wx (mTAnd a b) σ H Q → tAnd (tT G Wx a) (tT G Wx b) σ H Q := fun σ H Q ⟨μ, ρ, h, s, p⟩ =>
  ⟨μ, ρ, h, s, (Post.bnd p).mono fun μ1 h1 H1 c g q => by
    cases c with
    | true => rw [if_pos rfl] at q ⊢; exact ⟨μ1, ρ, h1, s.on g, q⟩
    | false => rw [if_neg Bool.false_ne_true] at q ⊢; exact Post.ok g.rel q⟩
theorem w_tor {a b : MT} : ∀ σ H Q, tT G Wx (mTOr a b) σ H Q → tOr (tT G Wx a) (tT G Wx b) σ H Q := fun σ H Q ⟨μ, ρ, h, s, p⟩ =>
  ⟨μ, ρ, h, s, (Post.bnd p).mono fun μ1 h1 H1 c g q => by
    cases c with
    | true => rw [if_pos rfl] at q ⊢; exact Post.ok g.rel q
    | false => rw [if_neg Bool.false_ne_true] at q ⊢; exact ⟨μ1, ρ, h1, s.on g, q⟩⟩
theorem w_tnot {a : MT} : ∀ σ H Q, tT G Wx (mTNot a) σ H Q → tNot (tT G Wx a) σ H Q := fun σ H Q ⟨μ, ρ, h, s, p⟩ =>
  ⟨μ, ρ, h, s, (Post.bnd p).mono fun μ1 h1 H1 c g q => Post.ok g.rel q⟩
/-- and, or, not as values -/
def mAnd (a b : ME) : ME := fun ρ h => bnd (a ρ h) fun w h1 => match w with
  | .bl c => if c = true then b ρ h1 else some (.ok (.bl false) h1)
  | _ => none
def mOr (a b : ME) : ME := fun ρ h => bnd (a ρ h) fun w h1 => match w with
  | .bl c => if c = true then some (.ok (.bl true) h1) else b ρ h1
  | _ => none
def mNot (a : ME) : ME := fun ρ h => bnd (a ρ h) fun w h1 => match w with
  | .bl c => some (.ok (.bl (!c)) h1)
  | _ => none
def mIfE (c : MT) (a b : ME) : ME := fun ρ h => bnd (c ρ h) fun k h1 => if k = true then a ρ h1 else b ρ h1
theorem w_and {a b : ME} : ∀ σ H Q, tE G Wx (mAnd a b) σ H Q → tAndV (tE G Wx a) (tE G Wx b) σ H Q := fun σ H Q ⟨μ, ρ, h, s, p⟩ =>
  ⟨μ, ρ, h, s, (Post.bnd p).mono fun μ1 h1 H1 w g q v r => by
    cases w with
    | bl c =>
      simp only [RU] at r
      refine ⟨c, r, ?_⟩
      cases c with
      | true => simp only [if_true] at q ⊢; exact ⟨μ1, ρ, h1, s.on g, q⟩
      | false => simp only [Bool.false_eq_true, if_false] at q ⊢; exact Post.ok g.rel q _ rfl
    | _ => exact False.elim q⟩
theorem w_or {a b : ME} : ∀ σ H Q, tE G Wx (mOr a b) σ H Q → tOrV (tE G Wx a) (tE G Wx b) σ H Q := fun σ H Q ⟨μ, ρ, h, s, p⟩ =>
  ⟨μ, ρ, h, s, (Post.bnd p).mono fun μ1 h1 H1 w g q v r => by
    cases w with
    | bl c =>
      simp only [RU] at r
      refine ⟨c, r, ?_⟩
      cases c with
      | true => simp only [if_true] at q ⊢; exact Post.ok g.rel q _ rfl
      | false => simp only [Bool.false_eq_true, if_false] at q ⊢; exact ⟨μ1, ρ, h1, s.on g, q⟩
    | _ => exact False.elim q⟩
theorem w_not {a : ME} : ∀ σ H Q, tE G Wx (mNot a) σ H Q → tNotV (tE G Wx a) σ H Q := fun σ H Q ⟨μ, ρ, h, s, p⟩ =>
  ⟨μ, ρ, h, s, (Post.bnd p).mono fun μ1 h1 H1 w g q v r => by
    cases w with
    | bl c => simp only [RU] at r; exact ⟨c, r, Post.ok g.rel q _ rfl⟩
    | _ => exact False.elim q⟩
theorem w_ifE {c : MT} {a b : ME} : ∀ σ H Q, tE G Wx (mIfE c a b) σ H Q → tIf (tT G Wx c) (tE G Wx a) (tE G Wx b) σ H Q := fun σ H Q ⟨μ, ρ, h, s, p⟩ =>
  ⟨μ, ρ, h, s, (Post.bnd p).mono fun μ1 h1 H1 k g q => by
    cases k with
    | true => rw [if_pos rfl] at q ⊢; exact ⟨μ1, ρ, h1, s.on g, q⟩
    | false => rw [if_neg Bool.false_ne_true] at q ⊢; exact ⟨μ1, ρ, h1, s.on g, q⟩⟩
/-- a < b < c -/
def mChain (f f' : O2) (a b c : ME) : ME := fun ρ h => bnd (a ρ h) fun x h1 => bnd (b ρ h1) fun y h2 => bnd (f x y h2) fun z h3 => match z with
  | .bl k => if k = true then bnd (c ρ h3) fun w h4 => f' y w h4 else some (.ok (.bl false) h3)
  | _ => none
theorem w_chain {f f' : O2} {r r' : R2} {a b c : ME} (c1 : OpC G f r) (c2 : OpC G f' r') : ∀ σ H Q, tE G Wx (mChain f f' a b c) σ H Q → tChain r r' (tE G Wx a) (tE G Wx b) (tE G Wx c) σ H Q := fun σ H Q ⟨μ, ρ, h, s, p⟩ =>
  ⟨μ, ρ, h, s, (Post.bnd p).mono fun μ1 h1 H1 wx g1 q1 x rx => ⟨μ1, ρ, h1, s.on g1, (Post.bnd q1).mono fun μ2 h2 H2 wy g2 q2 y ry =>
    c1 _ μ2 h2 H2 wx wy x y _ g2.rel (g2.ru rx) ry ((Post.bnd q2).mono fun μ3 h3 H3 wz g3 q3 z rz => by
      cases wz with
      | bl k =>
        simp only [RU] at rz
        refine ⟨k, rz, ?_⟩
        cases k with
        | true =>
          simp only [if_true] at q3 ⊢
          exact ⟨μ3, ρ, h3, ((s.on g1).on g2).on g3, (Post.bnd q3).mono fun μ4 h4 H4 ww g4 q4 w rw => c2 _ μ4 h4 H4 wy ww y w Q g4.rel ((g3.trans g4).ru ry) rw q4⟩
        | false => simp only [Bool.false_eq_true, if_false] at q3 ⊢; exact Post.ok g3.rel q3 _ rfl
      | _ => exact False.elim q3)⟩⟩
theorem w_testchain {f f' : O2} {r r' : R2} {a b c : ME} (c1 : OpC G f r) (c2 : OpC G f' r') : ∀ σ H Q, tT G Wx (mB (mChain f f' a b c)) σ H Q → tTest (tChain r r' (tE G Wx a) (tE G Wx b) (tE G Wx c)) σ H Q :=
  fun σ H Q z => w_chain c1 c2 σ H _ (w_B σ H Q z)
/-- -a -/
def mNeg (a : ME) : ME := fun ρ h => bnd (a ρ h) fun w h1 => match w with
  | .int i => some (.ok (.int (-i)) h1)
  | _ => none
theorem w_neg {a : ME} : ∀ σ H Q, tE G Wx (mNeg a) σ H Q → tUn (rU fun i => .int (-i)) (tE G Wx a) σ H Q := fun σ H Q ⟨μ, ρ, h, s, p⟩ =>
  ⟨μ, ρ, h, s, (Post.bnd p).mono fun μ1 h1 H1 w g q v r => by
    cases w with
    | int i => simp only [RU] at r; exact ⟨i, r, Post.ok g.rel q _ rfl⟩
    | _ => exact False.elim q⟩

/-! ### arguments, displays -/
def mNil : MA := fun _ h => some (.ok [] h)
def mCons (e : ME) (es : MA) : MA := fun ρ h => bnd (e ρ h) fun w h1 => bnd (es ρ h1) fun ws h2 => some (.ok (w :: ws) h2)
theorem w_nil : ∀ σ H Q, tA G Wx mNil σ H Q → tNil σ H Q := fun σ H Q ⟨μ, ρ, h, s, p⟩ => Post.ok s.rel p _ RUs.nil
theorem w_cons {e : ME} {es : MA} : ∀ σ H Q, tA G Wx (mCons e es) σ H Q → tCons (tE G Wx e) (tA G Wx es) σ H Q := fun σ H Q ⟨μ, ρ, h, s, p⟩ =>
  ⟨μ, ρ, h, s, (Post.bnd p).mono fun μ1 h1 H1 wx g1 q1 x rx => ⟨μ1, ρ, h1, s.on g1, (Post.bnd q1).mono fun μ2 h2 H2 ws g2 q2 vs rs => Post.ok g2.rel q2 _ (RUs.cons (g2.ru rx) rs)⟩⟩
def mTup (es : MA) : ME := fun ρ h => bnd (es ρ h) fun ws h1 => if ws.length ≤ LIM then some (.ok (.tup ws) h1) else none
def mLst (es : MA) : ME := fun ρ h => bnd (es ρ h) fun ws h1 => if ws.length ≤ LIM then some (.ok (.ref h1.length) (h1 ++ [.lst ws])) else none
theorem w_tup {es : MA} : ∀ σ H Q, tE G Wx (mTup es) σ H Q → tTup (tA G Wx es) σ H Q := fun σ H Q ⟨μ, ρ, h, s, p⟩ =>
  ⟨μ, ρ, h, s, (Post.bnd p).mono fun μ1 h1 H1 ws g q vs rs => by
    split at q
    · rename_i hc
      exact ⟨by rw [RUs.length rs]; exact lim_le hc, new_tup g.rel rs q⟩
    · exact False.elim q⟩
/-- a new list -/
theorem new_lst {E : XK} {Q : VK} {ws : List U} {xs : List V} (rel : HRel G μ h H) (rs : RUs G.K μ h.length H ws xs) (p : Post G (PV G Q) E μ h H (some (.ok (.ref h.length) (h ++ [.lst ws])))) : ∀ q, H q = none → Q (.ref q) (upd H q (.lst xs)) := fun q hq => by
  have rr := RUs.mono (μ' := nu μ h.length q) (n' := h.length + 1) (H' := upd H q (.lst xs)) (fun i hi => nu_old hi) (Nat.le_succ _) (TS0.fresh hq) _ _ rs
  have g := Gr.new (o := .lst xs) (c := .lst ws) rel hq ⟨_, upd_same, rr⟩
  exact p _ _ g _ (by simp only [RU]; exact ⟨by simp, by rw [nu_new]⟩)
theorem w_lst {es : MA} : ∀ σ H Q, tE G Wx (mLst es) σ H Q → tLst (tA G Wx es) σ H Q := fun σ H Q ⟨μ, ρ, h, s, p⟩ =>
  ⟨μ, ρ, h, s, (Post.bnd p).mono fun μ1 h1 H1 ws g q vs rs => by
    split at q
    · rename_i hc
      exact ⟨by rw [RUs.length rs]; exact lim_le hc, new_lst g.rel rs q⟩
    · exact False.elim q⟩

/-! ### calls of built-ins -/
def CallC (G : Gm) (f : MF) (r : List V → Hp → VK → Prop) : Prop := ∀ (E : XK) μ h H ws vs Q, HRel G μ h H → RUs G.K μ h.length H ws vs → Post G (PV G Q) E μ h H (f ws h) → r vs H Q
def mCB (f : MF) (es : MA) : ME := fun ρ h => bnd (es ρ h) fun ws h1 => f ws h1
theorem w_cb {f : MF} {r : List V → Hp → VK → Prop} {es : MA} (c : CallC G f r) : ∀ σ H Q, tE G Wx (mCB f es) σ H Q → tCB r (tA G Wx es) σ H Q := fun σ H Q ⟨μ, ρ, h, s, p⟩ =>
  ⟨μ, ρ, h, s, (Post.bnd p).mono fun μ1 h1 H1 ws g q vs rs => c _ μ1 h1 H1 ws vs Q g.rel rs q⟩
theorem rus1 {K : PySem.W.Frag} {n : Nat} {w : U} {vs : List V} (r : RUs K μ n H [w] vs) : ∃ v, vs = [v] ∧ RU K μ n H w v := by
  simp only [RUs] at r
  obtain ⟨y, ys, rfl, r1, rfl⟩ := r
  exact ⟨y, rfl, r1⟩
theorem rus2 {K : PySem.W.Frag} {n : Nat} {w u : U} {vs : List V} (r : RUs K μ n H [w, u] vs) : ∃ v x, vs = [v, x] ∧ RU K μ n H w v ∧ RU K μ n H u x := by
  simp only [RUs] at r
  obtain ⟨y, ys, rfl, r1, z, zs, rfl, r2, rfl⟩ := r
  exact ⟨y, z, rfl, r1, r2⟩
/-- len of a list or a tuple, of a text -/
def fLen : MF := fun ws h => match ws with
  | [.ref i] => match rd h i with
    | some us => some (.ok (.int us.length) h)
    | none => none
  | [.tup us] => some (.ok (.int us.length) h)
  | [.str z] => if z.length ≤ LIM then some (.ok (.int z.length) h) else none
  | _ => none
theorem fLen_ok : CallC G fLen (fun xs H Q => ∃ x n, xs = [x] ∧ LenV G.K x H n ∧ Q (.int n) H) := fun E μ h H ws vs Q rel rs p => by
  unfold fLen at p
  split at p
  · rename_i i
    obtain ⟨v, rfl, r⟩ := rus1 rs
    simp only [RU] at r
    obtain ⟨_, rfl⟩ := r
    split at p
    · rename_i us e
      obtain ⟨xs, sq, rr⟩ := rd_ok rel e
      exact ⟨_, us.length, rfl, .inl ⟨xs, sq, (RUs.length rr).symm⟩, Post.ok rel p _ rfl⟩
    · exact False.elim p
  · rename_i us
    obtain ⟨v, rfl, r⟩ := rus1 rs
    simp only [RU] at r
    obtain ⟨a, xs, rfl, st, rr⟩ := r
    exact ⟨_, us.length, rfl, .inr ⟨xs, st, (RUs.length rr).symm⟩, Post.ok rel p _ rfl⟩
  · rename_i z
    obtain ⟨v, rfl, r⟩ := rus1 rs
    simp only [RU] at r
    subst r
    split at p
    · rename_i hc
      exact ⟨_, z.length, rfl, ⟨lim_le hc, rfl⟩, Post.ok rel p _ rfl⟩
    · exact False.elim p
  · exact False.elim p
def fAbs : MF := fun ws h => match ws with
  | [.int i] => some (.ok (.int (if i < 0 then -i else i)) h)
  | _ => none
theorem fAbs_ok : CallC G fAbs (fun xs H Q => ∃ i, xs = [.int i] ∧ Q (.int (if i < 0 then -i else i)) H) := fun E μ h H ws vs Q rel rs p => by
  unfold fAbs at p
  split at p
  · rename_i i
    obtain ⟨v, rfl, r⟩ := rus1 rs
    simp only [RU] at r
    subst r
    exact ⟨i, rfl, Post.ok rel p _ rfl⟩
  · exact False.elim p
def fMax2 : MF := fun ws h => match ws with
  | [.int i, .int j] => some (.ok (.int (if j > i then j else i)) h)
  | _ => none
theorem fMax2_ok : CallC G fMax2 (fun xs H Q => ∃ i j, xs = [.int i, .int j] ∧ Q (.int (if j > i then j else i)) H) := fun E μ h H ws vs Q rel rs p => by
  unfold fMax2 at p
  split at p
  · rename_i i j
    obtain ⟨v, u, rfl, r1, r2⟩ := rus2 rs
    simp only [RU] at r1 r2
    subst r1 r2
    exact ⟨i, j, rfl, Post.ok rel p _ rfl⟩
  · exact False.elim p
def fMin2 : MF := fun ws h => match ws with
  | [.int i, .int j] => some (.ok (.int (if j < i then j else i)) h)
  | _ => none
theorem fMin2_ok : CallC G fMin2 (fun xs H Q => ∃ i j, xs = [.int i, .int j] ∧ Q (.int (if j < i then j else i)) H) := fun E μ h H ws vs Q rel rs p => by
  unfold fMin2 at p
  split at p
  · rename_i i j
    obtain ⟨v, u, rfl, r1, r2⟩ := rus2 rs
    simp only [RU] at r1 r2
    subst r1 r2
    exact ⟨i, j, rfl, Post.ok rel p _ rfl⟩
  · exact False.elim p
/-- int of an int, of a bool, of a text -/
def fInt : MF := fun ws h => match ws with
  | [.int i] => some (.ok (.int i) h)
  | [.bl k] => some (.ok (.int (if k then 1 else 0)) h)
  | _ => none
theorem fInt_ok : CallC G fInt (fun xs H Q => (∃ i, xs = [.int i] ∧ Q (.int i) H) ∨ ∃ k, xs = [.bl k] ∧ Q (.int (if k then 1 else 0)) H) := fun E μ h H ws vs Q rel rs p => by
  unfold fInt at p
  split at p
  · rename_i i
    obtain ⟨v, rfl, r⟩ := rus1 rs
    simp only [RU] at r
    subst r
    exact .inl ⟨i, rfl, Post.ok rel p _ rfl⟩
  · rename_i k
    obtain ⟨v, rfl, r⟩ := rus1 rs
    simp only [RU] at r
    subst r
    exact .inr ⟨k, rfl, Post.ok rel p _ rfl⟩
  · exact False.elim p
def fIntS : MF := fun ws h => match ws with
  | [.str a] => match PySem.intText? a with
    | some n => if a.length ≤ 640 then some (.ok (.int n) h) else none
    | none => none
  | _ => none
theorem fIntS_ok : CallC G fIntS (fun xs H Q => ∃ a n, xs = [.str a] ∧ PySem.intText? a = some n ∧ a.length ≤ 640 ∧ Q (.int n) H) := fun E μ h H ws vs Q rel rs p => by
  unfold fIntS at p
  split at p
  · rename_i a
    obtain ⟨v, rfl, r⟩ := rus1 rs
    simp only [RU] at r
    subst r
    split at p
    · rename_i n e
      split at p
      · rename_i hc
        exact ⟨a, n, rfl, e, hc, Post.ok rel p _ rfl⟩
      · exact False.elim p
    · exact False.elim p
  · exact False.elim p
/-- str of an int -/
def fStrI : MF := fun ws h => match ws with
  | [.int i] => if i.natAbs.log2 < 1920 then some (.ok (.str (toString i)) h) else none
  | _ => none
theorem fStrI_ok : CallC G fStrI (fun xs H Q => ∃ i, xs = [.int i] ∧ i.natAbs.log2 < 1920 ∧ Q (.str (toString i)) H) := fun E μ h H ws vs Q rel rs p => by
  unfold fStrI at p
  split at p
  · rename_i i
    obtain ⟨v, rfl, r⟩ := rus1 rs
    simp only [RU] at r
    subst r
    split at p
    · rename_i hc
      exact ⟨i, rfl, hc, Post.ok rel p _ rfl⟩
    · exact False.elim p
  · exact False.elim p
/-- all(xs), any(xs) of truth values -/
def blsOf : List U → Option (List Bool)
  | [] => some []
  | .bl b :: ws => match blsOf ws with
    | some bs => some (b :: bs)
    | none => none
  | _ :: _ => none
theorem blsOf_ok {K : PySem.W.Frag} {n : Nat} : ∀ {ws : List U} {vs : List V} {bs : List Bool}, blsOf ws = some bs → RUs K μ n H ws vs → vs = bs.map V.bl
  | [], vs, bs, e, r => by simp only [RUs] at r; subst r; cases e; rfl
  | w :: ws, vs, bs, e, r => by
    cases w <;> first | (cases e; done) | skip
    rename_i b
    simp only [blsOf] at e
    simp only [RUs] at r
    obtain ⟨y, ys, rfl, r1, rs⟩ := r
    cases e1 : blsOf ws with
    | none => rw [e1] at e; cases e
    | some bs2 =>
      rw [e1] at e
      cases e
      simp only [RU] at r1
      rw [r1, blsOf_ok e1 rs]
      rfl
def fAll (any : Bool) : MF := fun ws h => match ws with
  | [.ref i] => match rd h i with
    | some us => match blsOf us with
      | some bs => some (.ok (.bl (if any then bs.any id else bs.all id)) h)
      | none => none
    | none => none
  | _ => none
theorem fAll_ok : CallC G (fAll false) (fun vs H Q => ∃ (a : Addr) (bs : List Bool), vs = [V.ref a] ∧ SqL G.K H a (bs.map V.bl) ∧ Q (.bl (bs.all id)) H) := fun E μ h H ws vs Q rel rs p => by
  unfold fAll at p
  split at p
  · rename_i i
    obtain ⟨v, rfl, r⟩ := rus1 rs
    simp only [RU] at r
    obtain ⟨_, rfl⟩ := r
    split at p
    · rename_i us e
      split at p
      · rename_i bs eb
        obtain ⟨xs, sq, rr⟩ := rd_ok rel e
        have := blsOf_ok eb rr
        subst this
        exact ⟨_, bs, rfl, sq, Post.ok rel p _ (by simp [RU])⟩
      · exact False.elim p
    · exact False.elim p
  · exact False.elim p
theorem fAny_ok : CallC G (fAll true) (fun vs H Q => ∃ (a : Addr) (bs : List Bool), vs = [V.ref a] ∧ SqL G.K H a (bs.map V.bl) ∧ Q (.bl (bs.any id)) H) := fun E μ h H ws vs Q rel rs p => by
  unfold fAll at p
  split at p
  · rename_i i
    obtain ⟨v, rfl, r⟩ := rus1 rs
    simp only [RU] at r
    obtain ⟨_, rfl⟩ := r
    split at p
    · rename_i us e
      split at p
      · rename_i bs eb
        obtain ⟨xs, sq, rr⟩ := rd_ok rel e
        have := blsOf_ok eb rr
        subst this
        exact ⟨_, bs, rfl, sq, Post.ok rel p _ (by simp [RU])⟩
      · exact False.elim p
    · exact False.elim p
  · exact False.elim p
/-- list(x), tuple(x) -/
def fList : MF := fun ws h => match (match ws with
    | [.ref i] => rd h i
    | [.tup us] => some us
    | _ => none) with
  | some us => some (.ok (.ref h.length) (h ++ [.lst us]))
  | none => none
theorem fList_ok : CallC G fList (fun xs H Q => ∃ p ys, xs = [.ref p] ∧ (SqL G.K H p ys ∨ SqT G.K H p ys) ∧ ∀ l, H l = none → Q (.ref l) (upd H l (.lst ys))) := fun E μ h H ws vs Q rel rs p => by
  unfold fList at p
  split at p
  · rename_i us e
    split at e
    · rename_i i
      obtain ⟨v, rfl, r⟩ := rus1 rs
      simp only [RU] at r
      obtain ⟨_, rfl⟩ := r
      obtain ⟨xs, sq, rr⟩ := rd_ok rel e
      exact ⟨_, xs, rfl, .inl sq, new_lst rel rr p⟩
    · rename_i us'
      cases e
      obtain ⟨v, rfl, r⟩ := rus1 rs
      simp only [RU] at r
      obtain ⟨a, xs, rfl, st, rr⟩ := r
      exact ⟨_, xs, rfl, .inr st, new_lst rel rr p⟩
    · cases e
  · exact False.elim p
def fTuple : MF := fun ws h => match (match ws with
    | [.ref i] => rd h i
    | [.tup us] => some us
    | _ => none) with
  | some us => some (.ok (.tup us) h)
  | none => none
theorem fTuple_ok : CallC G fTuple (fun xs H Q => ∃ p ys, xs = [.ref p] ∧ ((SqL G.K H p ys ∧ ∀ l, H l = none → Q (.ref l) (upd H l (.tup ys))) ∨ (SqT G.K H p ys ∧ Q (.ref p) H))) := fun E μ h H ws vs Q rel rs p => by
  unfold fTuple at p
  split at p
  · rename_i us e
    split at e
    · rename_i i
      obtain ⟨v, rfl, r⟩ := rus1 rs
      simp only [RU] at r
      obtain ⟨_, rfl⟩ := r
      obtain ⟨xs, sq, rr⟩ := rd_ok rel e
      exact ⟨_, xs, rfl, .inl ⟨sq, new_tup rel rr p⟩⟩
    · rename_i us'
      cases e
      obtain ⟨v, rfl, r⟩ := rus1 rs
      simp only [RU] at r
      obtain ⟨a, xs, rfl, st, rr⟩ := r
      exact ⟨_, xs, rfl, .inr ⟨st, Post.ok rel p _ (ru_tup st rr)⟩⟩
    · cases e
  · exact False.elim p

/-! ### methods of built-in types -/
def MtC (G : Gm) (T : String) (f : U → MF) (r : V → List V → Hp → VK → Prop) : Prop := ∀ (E : XK) μ h H wx x ws vs Q, HRel G μ h H → RU G.K μ h.length H wx x → RUs G.K μ h.length H ws vs → Post G (PV G Q) E μ h H (f wx ws h) → r x vs H Q
/-- what kind a value must be for its method to be looked up -/
def TyC (G : Gm) (T : String) (k : U → Hm → Bool) : Prop := ∀ μ h H w v, HRel G μ h H → RU G.K μ h.length H w v → k w h = true → tyV G.K T v H
def mBM (k : U → Hm → Bool) (f : U → MF) (o : ME) (es : MA) : ME := fun ρ h => bnd (o ρ h) fun x h1 => if k x h1 = true then bnd (es ρ h1) fun ws h2 => f x ws h2 else none
theorem w_bm {T : String} {k : U → Hm → Bool} {f : U → MF} {r : V → List V → Hp → VK → Prop} {o : ME} {es : MA} (ty : TyC G T k) (c : MtC G T f r) : ∀ σ H Q, tE G Wx (mBM k f o es) σ H Q → tBM G.K T r (tE G Wx o) (tA G Wx es) σ H Q := fun σ H Q ⟨μ, ρ, h, s, p⟩ =>
  ⟨μ, ρ, h, s, (Post.bnd p).mono fun μ1 h1 H1 wx g1 q1 x rx => by
    split at q1
    · rename_i hk
      exact ⟨ty μ1 h1 H1 wx x g1.rel rx hk, μ1, ρ, h1, s.on g1, (Post.bnd q1).mono fun μ2 h2 H2 ws g2 q2 vs rs => c _ μ2 h2 H2 wx x ws vs Q g2.rel (g2.ru rx) rs q2⟩
    · exact False.elim q1⟩
theorem w_bm0 {T : String} {k : U → Hm → Bool} {f : U → MF} {r : V → List V → Hp → VK → Prop} {o : ME} (ty : TyC G T k) (c : MtC G T f r) : ∀ σ H Q, tE G Wx (mBM k f o mNil) σ H Q → tBM0 G.K T r (tE G Wx o) σ H Q := fun σ H Q ⟨μ, ρ, h, s, p⟩ =>
  ⟨μ, ρ, h, s, (Post.bnd p).mono fun μ1 h1 H1 wx g1 q1 x rx => by
    split at q1
    · rename_i hk
      exact ⟨ty μ1 h1 H1 wx x g1.rel rx hk, c _ μ1 h1 H1 wx x [] [] Q g1.rel rx RUs.nil q1⟩
    · exact False.elim q1⟩
def kList : U → Hm → Bool := fun w h => match w with
  | .ref i => match h[i]? with
    | some (.lst _) => true
    | _ => false
  | _ => false
theorem kList_ok : TyC G "list" kList := fun μ h H w v rel r e => by
  unfold kList at e
  split at e
  · rename_i i
    split at e
    · rename_i ws ec
      simp only [RU] at r
      obtain ⟨_, rfl⟩ := r
      obtain ⟨xs, s, _⟩ := rel.cell i _ ec
      exact .inl ⟨rfl, xs, SqL.of s⟩
    · cases e
  · cases e
def kStr : U → Hm → Bool := fun w _ => match w with
  | .str _ => true
  | _ => false
theorem kStr_ok : TyC G "str" kStr := fun μ h H w v rel r e => by
  unfold kStr at e
  split at e
  · simp only [RU] at r
    subst r
    exact rfl
  · cases e
def fAppend : U → MF := fun x ws h => match x, ws with
  | .ref l, [w] => match h[l]? with
    | some (.lst us) => if us.length < LIM then some (.ok .non (h.set l (.lst (us ++ [w])))) else none
    | _ => none
  | _, _ => none
theorem fAppend_ok : MtC G "list" fAppend rAppend := fun E μ h H wx x ws vs Q rel rx rs p => by
  unfold fAppend at p
  split at p
  · rename_i l w
    simp only [RU] at rx
    obtain ⟨hl, rfl⟩ := rx
    obtain ⟨v, rfl, rv⟩ := rus1 rs
    split at p
    · rename_i us ec
      split at p
      · rename_i hc
        obtain ⟨xs, s, rr⟩ := rel.cell l _ ec
        refine ⟨_, xs, v, rfl, rfl, s, by rw [RUs.length rr]; exact Nat.lt_of_lt_of_le hc (lim_le (Nat.le_refl _)), ?_⟩
        have ts : TS0 G.K H (upd H (μ l) (.lst (xs ++ [v]))) := TS0.write s rfl
        have g := Gr.write (o := .lst (xs ++ [v])) (d := .lst (us ++ [w])) rel ec rfl rfl ⟨_, upd_same, (rr.append (RUs.cons rv RUs.nil)).same ts⟩
        exact p _ _ g _ rfl
      · exact False.elim p
    · exact False.elim p
  · exact False.elim p
def fPop : U → MF := fun x ws h => match x, ws with
  | .ref l, [] => match h[l]? with
    | some (.lst us) => match us[us.length - 1]? with
      | some w => some (.ok w (h.set l (.lst us.dropLast)))
      | none => none
    | _ => none
  | _, _ => none

/-! ### xs[i] = e -/
def mSetIx (e o i : ME) : MS := fun ρ h => bndS ρ (e ρ h) fun w h1 => bndS ρ (o ρ h1) fun x h2 => bndS ρ (i ρ h2) fun y h3 => match x, y with
  | .ref l, .int k => match h3[l]? with
    | some (.lst us) => match ixN us.length k with
      | some j => some (.nx ρ (h3.set l (.lst (us.set j w))))
      | none => none
    | _ => none
  | _, _ => none
theorem w_setIx {e o i : ME} : ∀ D σ H, tS G Wx (mSetIx e o i) D σ H → tAsg (tE G Wx e) (gSub (tE G Wx o) (tE G Wx i) rSetL) D σ H := fun D σ H ⟨μ, ρ, h, s, p⟩ =>
  ⟨μ, ρ, h, s, (PostS.bnd s p).mono fun μ1 h1 H1 w g1 q1 v rv => ⟨μ1, ρ, h1, s.on g1, (PostS.bnd (s.on g1) q1).mono fun μ2 h2 H2 wx g2 q2 x rx => ⟨μ2, ρ, h2, (s.on g1).on g2, (PostS.bnd ((s.on g1).on g2) q2).mono fun μ3 h3 H3 wy g3 q3 y ry => by
    have rx := g3.ru rx
    have rv := (g2.trans g3).ru rv
    cases wx with
    | ref l =>
      cases wy with
      | int k =>
        simp only [RU] at rx ry
        obtain ⟨hl, rfl⟩ := rx
        subst ry
        simp only at q3
        split at q3
        · rename_i us ec
          split at q3
          · rename_i j ej
            obtain ⟨xs, sx, rr⟩ := g3.rel.cell l _ ec
            refine ⟨_, xs, k, j, rfl, rfl, sx, by rw [RUs.length rr]; exact ej, ?_⟩
            have ts : TS0 G.K H3 (upd H3 (μ3 l) (.lst (xs.set j v))) := TS0.write sx rfl
            have g := Gr.write (o := .lst (xs.set j v)) (d := .lst (us.set j w)) g3.rel ec rfl rfl ⟨_, upd_same, (RUs.set rv j rr).same ts⟩
            exact q3 μ3 σ _ g ((((s.on g1).on g2).on g3).on g)
          · exact False.elim q3
        · exact False.elim q3
      | _ => exact False.elim q3
    | _ => exact False.elim q3⟩⟩⟩
end
end ML

set_option maxHeartbeats 4000000
namespace ML
open PySem L2
section
variable {G : Gm} {Wx : WX} {μ μ' : Nat → Addr} {h h' : Hm} {H H' : Hp} {ρ : Ev} {σ : St}

/-! ### a def's promise -/
def spM (G : Gm) (n : Nat) (f : MF) : Sp := fun vs H Q E => ∃ μ h ws, HRel G μ h H ∧ RUs G.K μ h.length H ws vs ∧ vs.length = n ∧ Post G (PV G Q) E μ h H (f ws h)
/-- a def by its body: n parameters, N slots -/
def mfun (n N : Nat) (body : MS) : MF := fun ws h => if ws.length = n then match body (ws.map some ++ List.replicate (N - n) none) h with
    | some (.nx _ h1) => some (.ok .non h1)
    | some (.rt w h1) => some (.ok w h1)
    | some (.ex c fs _ h1) => some (.ex c fs h1)
    | _ => none
  else none
theorem st_start {ws : List U} {vs : List V} {n : Nat} {Ns : List Str} (rel : HRel G μ h H) (rs : RUs G.K μ h.length H ws vs) (hn : vs.length = n) : StOk G μ (ws.map some ++ List.replicate (Ns.length - n) none) h (L2.start Ns vs) H := by
  have hl := RUs.length rs
  refine ⟨rel, by simp [L2.start, ← hn, hl], fun i w e => ?_⟩
  by_cases hi : i < ws.length
  · rw [List.getElem?_append_left (by simpa using hi), List.getElem?_map] at e
    cases e1 : ws[i]? with
    | none => rw [e1] at e; cases e
    | some u =>
      rw [e1] at e
      cases e
      obtain ⟨v, ev, rv⟩ := RUs.get rs e1
      refine ⟨v, ?_, rv⟩
      unfold L2.start
      rw [List.getElem?_append_left (by simp [hl]; exact hi), List.getElem?_map, ev]
      rfl
  · rw [List.getElem?_append_right (by simp; omega)] at e
    rw [List.getElem?_replicate] at e
    split at e <;> cases e
section
variable {P : Program} {w : World} {K : PySem.W.Frag} {mg : Str → Option Value} {base : Heap}
abbrev FnM (P : Program) (w : World) (G : Gm) (mg : Str → Option Value) (base : Heap) (k : Nat) (f : Addr) (fd : FuncData) (ps : List Str) (m : MF) : Prop := FnOk P w G.K mg base (L2.CX P w) k f fd ps (spM G ps.length m)
/-- the wish of a def's body about exceptions -/
abbrev wDef (E : XK) : WX := fun cls d _ H => E cls d H
theorem fn_M {x qual : Str} {st : Stmt} {f : Addr} {fd : FuncData} {N ps : List Str} {k : Nat} {m : MS} (F : Fun G.K x qual st f fd) (S : FnScope N ps (defScope st))
    (hbody : ∀ (cdv : Value) (A : Around) (outer : List Env) (s : Shared) (H : Hp) (E : XK), Room k (A.deeper (PyProof.Rows.envOfC qual (defScope st) s.heap.objs.size f cdv)) →
      Takes (cxOf (L2.CX P w) P w G.K mg base N qual (defScope st) f cdv A outer s H E) (wDef E) →
      PSs (cxOf (L2.CX P w) P w G.K mg base N qual (defScope st) f cdv A outer s H E) (defBody st) (tS G (wDef E) m)) :
    FnM P w G mg base (k + 1) f fd ps (mfun ps.length N.length m) := by
  refine F.okX S (fun vs H Q E z => ?_) (fun cdv A outer s H vs Q E hr hsp => ⟨_, hbody cdv A outer s H E hr (takes_of rfl rfl rfl rfl), ?_⟩)
  · obtain ⟨_, _, _, _, _, hl, _⟩ := z
    exact hl
  · obtain ⟨μ, h, ws, rel, rs, hl, p⟩ := hsp
    refine ⟨μ, _, h, st_start rel rs hl, ?_⟩
    unfold mfun at p
    have hw : ws.length = ps.length := by rw [← RUs.length rs]; exact hl
    rw [if_pos hw] at p
    cases e : m (ws.map some ++ List.replicate (N.length - ps.length) none) h with
    | none => rw [e] at p; exact p
    | some r =>
      rw [e] at p
      cases r with
      | nx ρ' h1 => exact fun μ' σ' H' g s' => p μ' H' g _ rfl
      | rt w h1 => exact fun μ' H' v g r => p μ' H' g v r
      | bk ρ' h1 => exact False.elim p
      | ct ρ' h1 => exact False.elim p
      | ex c fs ρ' h1 => exact fun μ' σ' H' cls d g s' rx => p μ' H' cls d g rx
/-- a plainer function in its place -/
theorem FnM.to {k : Nat} {f : Addr} {fd : FuncData} {ps : List Str} {m m' : MF} (F : FnM P w G mg base k f fd ps m) (hm : ∀ ws h r, m' ws h = some r → m ws h = some r) : FnM P w G mg base k f fd ps m' :=
  FnOk.imp F fun vs H Q E ⟨μ, h, ws, rel, rs, hl, p⟩ => ⟨μ, h, ws, rel, rs, hl, by
    cases e : m' ws h with
    | none => rw [e] at p; exact False.elim p
    | some r => rw [hm ws h r e, ← e]; exact p⟩
end

/-! ### the call of a def -/
theorem Post.on {α : Type} {P : (Nat → Addr) → Hm → Hp → α → Prop} {E : XK} {r : Option (Rz α)} (p : Post G P E μ h H r) (g : Gr G μ h H μ' h' H') : Post G P E μ' h' H' r := by
  cases r with
  | none => exact p
  | some r =>
    cases r with
    | ok a h1 => exact fun μ1 H1 g1 => p μ1 H1 (g.trans g1)
    | ex c fs h1 => exact fun μ1 H1 cls d g1 rx => p μ1 H1 cls d (g.trans g1) rx
/-- as many arguments -/
def AL (m : MA) (n : Nat) : Prop := ∀ ρ h ws h', m ρ h = some (.ok ws h') → ws.length = n
theorem al_nil : AL mNil 0 := fun ρ h ws h' e => by
  unfold mNil at e
  cases e
  rfl
theorem al_cons {e : ME} {es : MA} {n : Nat} (a : AL es n) : AL (mCons e es) (n + 1) := fun ρ h ws h' q => by
  unfold mCons at q
  cases e1 : e ρ h with
  | none => rw [e1] at q; cases q
  | some r =>
    rw [e1] at q
    cases r with
    | ex c fs h1 => cases q
    | ok w h1 =>
      simp only [bnd_ok] at q
      cases e2 : es ρ h1 with
      | none => rw [e2] at q; cases q
      | some r2 =>
        rw [e2] at q
        cases r2 with
        | ex c fs h2 => cases q
        | ok ws2 h2 =>
          simp only [bnd_ok] at q
          cases q
          simp [a ρ h1 ws2 _ e2]
theorem Post.withEq {α : Type} {P : (Nat → Addr) → Hm → Hp → α → Prop} {E : XK} {r : Option (Rz α)} (p : Post G P E μ h H r) : Post G (fun μ' h' H' a => P μ' h' H' a ∧ r = some (.ok a h')) E μ h H r := by
  cases r with
  | none => exact p
  | some r =>
    cases r with
    | ok a h' => exact fun μ' H' g => ⟨p μ' H' g, rfl⟩
    | ex c fs h' => exact p
theorem w_call {n : Nat} {f : MF} {es : MA} (a : AL es n) : ∀ σ H Q, tE G Wx (mCB f es) σ H Q → tCallS (spM G n f) (WE Wx) (tA G Wx es) σ H Q := fun σ H Q ⟨μ, ρ, h, s, p⟩ =>
  ⟨μ, ρ, h, s, (Post.bnd p).withEq.mono fun μ1 h1 H1 ws g ⟨q, eq⟩ vs rs => ⟨μ1, h1, ws, g.rel, rs, (RUs.length rs).trans (a ρ h ws h1 eq), q⟩⟩

def fput (f : Str) (w : U) : List (Str × U) → List (Str × U)
  | [] => [(f, w)]
  | (g, u) :: fs => if g = f then (f, w) :: fs else (g, u) :: fput f w fs
theorem RFs.put {K : PySem.W.Frag} {n : Nat} {f : Str} {w : U} {v : V} (r : RU K μ n H w v) : ∀ {fs : List (Str × U)} {gs : List (Str × V)}, RFs K μ n H fs gs → RFs K μ n H (fput f w fs) (putF f v gs)
  | [], gs, q => by
    simp only [RFs] at q
    subst q
    show RFs K μ n H [(f, w)] [(f, v)]
    simp only [RFs]
    exact ⟨v, [], rfl, r, rfl⟩
  | (g, u) :: fs, gs, q => by
    simp only [RFs] at q
    obtain ⟨y, ys, rfl, r1, rs⟩ := q
    unfold fput putF
    by_cases hg : g = f
    · rw [if_pos hg, if_pos hg]
      subst hg
      simp only [RFs]
      exact ⟨v, ys, rfl, r, rs⟩
    · rw [if_neg hg, if_neg hg]
      simp only [RFs]
      exact ⟨y, _, rfl, r1, RFs.put r rs⟩
theorem RFs.length {K : PySem.W.Frag} {n : Nat} : ∀ {fs : List (Str × U)} {gs : List (Str × V)}, RFs K μ n H fs gs → gs.length = fs.length
  | [], gs, q => by simp only [RFs] at q; subst q; rfl
  | (g, u) :: fs, gs, q => by
    simp only [RFs] at q
    obtain ⟨y, ys, rfl, r1, rs⟩ := q
    simp [RFs.length rs]
/-! ### attributes of instances -/
def fget (f : Str) : List (Str × U) → Option U
  | [] => none
  | (g, w) :: fs => if f = g then some w else fget f fs
theorem fget_ok {K : PySem.W.Frag} {n : Nat} {f : Str} : ∀ {fs : List (Str × U)} {gs : List (Str × V)} {w : U}, fget f fs = some w → RFs K μ n H fs gs → ∃ v, gs.lookup f = some v ∧ RU K μ n H w v
  | [], gs, w, e, r => by cases e
  | (g, u) :: fs, gs, w, e, r => by
    simp only [RFs] at r
    obtain ⟨y, ys, rfl, r1, rs⟩ := r
    unfold fget at e
    rw [List.lookup_cons]
    by_cases hg : f = g
    · rw [if_pos hg] at e
      cases e
      subst hg
      simp only [beq_self_eq_true]
      exact ⟨y, rfl, r1⟩
    · rw [if_neg hg] at e
      have : (f == g) = false := by simpa using hg
      rw [this]
      exact fget_ok e rs
theorem fget_none {K : PySem.W.Frag} {n : Nat} {f : Str} : ∀ {fs : List (Str × U)} {gs : List (Str × V)}, fget f fs = none → RFs K μ n H fs gs → gs.lookup f = none
  | [], gs, e, r => by simp only [RFs] at r; subst r; rfl
  | (g, u) :: fs, gs, e, r => by
    simp only [RFs] at r
    obtain ⟨y, ys, rfl, r1, rs⟩ := r
    unfold fget at e
    rw [List.lookup_cons]
    by_cases hg : f = g
    · rw [if_pos hg] at e
      cases e
    · rw [if_neg hg] at e
      have : (f == g) = false := by simpa using hg
      rw [this]
      exact fget_none e rs


/-! ### methods and makers, what is raised wished for at the caller's slots -/
section
variable {X : Cx} {CX : CXT} {k : Nat} {f C : Addr} {fd : FuncData} {ps : List Str} {sp : Sp} {E : St → XK} {x m : Str} {p pos apos : Pos} {e o : Expr} {es : List Expr} {ta : TE} {t : TA}
def tMethS (C : Addr) (m : Str) (sp : Sp) (E : St → XK) (ta : TE) (t : TA) : TE := fun σ H Q => ta σ H fun x H1 => ∃ a dx fs, x = .ref a ∧ H1 a = some (.ins C dx fs) ∧ fs.lookup m = none ∧
  t σ H1 fun vs H2 => sp (x :: vs) H2 Q (E σ)
theorem pe_methS {pl : Sem Bool} (he : PE X o ta) (c : Cls X.K C) (hm : Meth X.K C m f) (F : FnOk X.prog X.w X.K X.mg X.base CX k f fd ps sp) (hr : Room k X.A) (hb : Binds X.K fd ps []) (hx : ∀ σ, PassesAt CX X σ (E σ)) (ha : PA X (e :: es) t)
    (hst : starEach (e :: es) X.env = (false, eval e X.env) :: starEach es X.env := by rfl) (hpl : (backTo pos (starEach es X.env)).any (·.1) = false := by rfl)
    (ht : eval (.Call (.Attribute o m apos) (e :: es) [] pos) X.env = (do
      let ov ← eval o X.env
      standAt apos.atName
      let (f, first) ← holding [ov] (getMethod ov m pl)
      callWith pos f first (backTo pos (starEach (e :: es) X.env)) (backToKw pos (keywordEach [] X.env))) := by rfl) :
    PE X (.Call (.Attribute o m apos) (e :: es) [] pos) (tMethS C m sp E ta t) := by
  refine ⟨fun pins s σ H Q I h => ?_⟩
  refine PySem.W.methodCall_KW (pl := pl) (thn (he.run pins s σ H _ I h) fun u s1 ⟨x, H1, I1, rx, a, dx, fs, ex, ea, l, q⟩ => ?_) ht
  subst ex
  obtain rfl : u = Value.ref a := rx
  refine getmeth_ok I1 ea c hm l ?_
  refine PySem.W.callWith_K (first := [.ref a]) (h₀ := X.base) I.ok.mod.kin hm.kp (thn (ha.run pos pins s1 σ H1 _ I1 q) fun us s2 ⟨vs, H2, I2, r, q2⟩ => ⟨I2.kIn, ?_⟩) hst hpl
  exact run_fnS (us := .ref a :: us) (vs := .ref a :: vs) F hr hb (hx σ) I2 (.cons rfl r) q2
theorem pe_methS0 {pl : Sem Bool} (he : PE X o ta) (c : Cls X.K C) (hm : Meth X.K C m f) (F : FnOk X.prog X.w X.K X.mg X.base CX k f fd ps sp) (hr : Room k X.A) (hb : Binds X.K fd ps []) (hx : ∀ σ, PassesAt CX X σ (E σ))
    (ht : eval (.Call (.Attribute o m apos) [] [] pos) X.env = (do
      let ov ← eval o X.env
      standAt apos.atName
      let (f, first) ← holding [ov] (getMethod ov m pl)
      callWith pos f first (backTo pos (starEach [] X.env)) (backToKw pos (keywordEach [] X.env))) := by rfl) :
    PE X (.Call (.Attribute o m apos) [] [] pos) (tMethS C m sp E ta tNil) := by
  refine ⟨fun pins s σ H Q I h => ?_⟩
  refine PySem.W.methodCall_KW (pl := pl) (thn (he.run pins s σ H _ I h) fun u s1 ⟨x, H1, I1, rx, a, dx, fs, ex, ea, l, q⟩ => ?_) ht
  subst ex
  obtain rfl : u = Value.ref a := rx
  refine getmeth_ok I1 ea c hm l ?_
  exact PySem.W.callWith_K0 (first := [.ref a]) I1.kIn hm.kp (run_fnS (us := [.ref a]) (vs := [.ref a]) F hr hb (hx σ) I1 (.cons rfl .nil) q)
def tMakeS (C : Addr) (sp : Sp) (E : St → XK) (t : TA) : TE := fun σ H Q => t σ H fun vs H1 => ∀ x dx, H1 x = none → H1 dx = none → dx ≠ x →
  sp (.ref x :: vs) (upd (upd H1 dx (.own x)) x (.ins C dx [])) (fun v H2 => v = .non ∧ Q (.ref x) H2) (E σ)
theorem run_makeS {pins : List (Addr × Obj)} {σ : St} {H : Hp} {s : Shared} {Q : VK} {us : List Value} {vs : List V} (M : Mk X.K C f) (F : FnOk X.prog X.w X.K X.mg X.base CX k f fd ps sp) (hr : Room (k + 1) X.A) (hb : Binds X.K fd ps [])
    (hx : PassesAt CX X σ (E σ)) (I : Inv X pins σ H s) (r : Vals vs us)
    (h : ∀ x dx, H x = none → H dx = none → dx ≠ x → sp (.ref x :: vs) (upd (upd H dx (.own x)) x (.ins C dx [])) (fun v H2 => v = .non ∧ Q (.ref x) H2) (E σ)) :
    wpAny (model X.prog X.w) X.A (call (.ref C) us) (EP X pins σ Q) X.xe s := by
  have hq := h (s.heap.objs.size + 1) s.heap.objs.size (I.hok.fresh (Nat.le_succ _)) (I.hok.fresh (Nat.le_refl _)) (Nat.ne_of_lt (Nat.lt_succ_self _))
  have I2 := Inv.made (C := C) I
  have r2 : Vals (V.ref (s.heap.objs.size + 1) :: vs) (Value.ref (s.heap.objs.size + 1) :: us) := .cons rfl r
  have hl : (Value.ref (s.heap.objs.size + 1) :: us).length = ps.length := by
    have e := r2.length
    rw [F.len _ _ _ _ hq] at e
    exact e.symm
  have b := hb _ (Value.ref (s.heap.objs.size + 1) :: us) I2.kIn (by rw [List.append_nil]; exact hl)
  rw [List.append_nil] at b
  refine wpAny_call (make_map (f := f) I.kIn M.makes M.init (beq_iff_eq.mp M.fn) (codeAny_mono (F.run _ X.stack _ _ ⟨Value.ref (s.heap.objs.size + 1) :: us, []⟩ (Value.ref (s.heap.objs.size + 1) :: us) _ _ (E σ) (hr.make C us [])
    (I2.env0.make C us []) b r2 hq) fun r s' hq' => ?_))
  cases r with
  | error e => exact hx pins _ _ e s' I2 hq'
  | ok fl =>
    cases fl with
    | ret u =>
      obtain ⟨v, H', I3, rv, ev, q3⟩ := I2.after hq'
      subst ev
      exact ⟨rv, ⟨V.ref (s.heap.objs.size + 1), H', I3, rfl, q3⟩⟩
    | next => exact False.elim hq'
    | brk => exact False.elim hq'
    | cont => exact False.elim hq'
theorem pe_makeS (M : Mk X.K C f) (F : FnOk X.prog X.w X.K X.mg X.base CX k f fd ps sp) (hr : Room (k + 1) X.A) (hg : Gl X x) (hm : X.mg x = some (.ref C)) (hb : Binds X.K fd ps []) (hx : ∀ σ, PassesAt CX X σ (E σ))
    (ha : PA X (e :: es) t) (hdb : (x == ("__debug__" : Str)) = false := by decide) (he : starEach (e :: es) X.env = (false, eval e X.env) :: starEach es X.env := by rfl) (hpl : (backTo pos (starEach es X.env)).any (·.1) = false := by rfl) :
    PE X (.Call (.Name x p) (e :: es) [] pos) (tMakeS C sp E t) := by
  refine ⟨fun pins s σ H Q I h => ?_⟩
  refine wpAny_Call_Name_kw (ld_glob I hg hm ?_ hdb)
  refine PySem.W.callWith_K (h₀ := X.base) I.ok.mod.kin M.kp (thn (ha.run pos pins s σ H _ I h) fun us s1 ⟨vs, H1, I1, r, q⟩ => ⟨I1.kIn, ?_⟩) he hpl
  exact run_makeS M F hr hb (hx σ) I1 r q
theorem pe_callS0 (F : FnOk X.prog X.w X.K X.mg X.base CX k f fd ps sp) (hr : Room k X.A) (hg : Gl X x) (hm : X.mg x = some (.ref f)) (hk : PySem.W.keepIn X.K (.ref f) = true) (hb : Binds X.K fd ps []) (hx : ∀ σ, PassesAt CX X σ (E σ))
    (hdb : (x == ("__debug__" : Str)) = false := by decide) : PE X (.Call (.Name x p) [] [] pos) (tCallS sp E tNil) := by
  refine ⟨fun pins s σ H Q I h => ?_⟩
  refine wpAny_Call_Name_kw (ld_glob I hg hm ?_ hdb)
  exact PySem.W.callWith_K0 I.kIn hk (run_fnS (us := []) F hr hb (hx σ) I .nil h)
end
/-! ### e.f of an instance; self.f = e; the call of a method; C(..) -/
/-- the classes whose instances' f is read from their own dict -/
def AtC (G : Gm) (f : Str) (ok : Nat → Bool) : Prop := ∀ c, ok c = true → Cls G.K (G.ca c) ∧ NoAttr G.K (G.ca c) f
def mAttr (f : Str) (ok : Nat → Bool) (o : ME) : ME := fun ρ h => bnd (o ρ h) fun x h1 => match x with
  | .ref i => match h1[i]? with
    | some (.ins c fs) => if ok c = true then match fget f fs with
        | some w => some (.ok w h1)
        | none => none
      else none
    | _ => none
  | _ => none
theorem w_attr {f : Str} {ok : Nat → Bool} {o : ME} (a : AtC G f ok) : ∀ σ H Q, tE G Wx (mAttr f ok o) σ H Q → tFld G.K (tE G Wx o) f σ H Q := fun σ H Q ⟨μ, ρ, h, s, p⟩ =>
  ⟨μ, ρ, h, s, (Post.bnd p).mono fun μ1 h1 H1 wx g q x rx => by
    cases wx with
    | ref i =>
      simp only [RU] at rx
      obtain ⟨hi, rfl⟩ := rx
      simp only at q
      split at q
      · rename_i c fs ec
        split at q
        · rename_i hc
          split at q
          · rename_i w ew
            obtain ⟨dx, gs, ea, rf⟩ := g.rel.cell i _ ec
            obtain ⟨v, ev, rv⟩ := fget_ok ew rf
            obtain ⟨c1, c2⟩ := a c hc
            exact ⟨_, _, dx, gs, v, rfl, ea, c1, c2, ev, Post.ok g.rel q _ rv⟩
          · exact False.elim q
        · exact False.elim q
      · exact False.elim q
    | _ => exact False.elim q⟩
def mSetAt (f : Str) (ok : Nat → Bool) (o e : ME) : MS := fun ρ h => bndS ρ (e ρ h) fun w h1 => bndS ρ (o ρ h1) fun x h2 => match x with
  | .ref i => match h2[i]? with
    | some (.ins c fs) => if (ok c && decide (fs.length < 900)) = true then some (.nx ρ (h2.set i (.ins c (fput f w fs)))) else none
    | _ => none
  | _ => none
theorem w_setAt {f : Str} {ok : Nat → Bool} {o e : ME} (a : AtC G f ok) : ∀ D σ H, tS G Wx (mSetAt f ok o e) D σ H → sFld G.K (tE G Wx o) (tE G Wx e) f D σ H := fun D σ H ⟨μ, ρ, h, s, p⟩ =>
  ⟨μ, ρ, h, s, (PostS.bnd s p).mono fun μ1 h1 H1 w g1 q1 v rv => ⟨μ1, ρ, h1, s.on g1, (PostS.bnd (s.on g1) q1).mono fun μ2 h2 H2 wx g2 q2 x rx => by
    have rv := g2.ru rv
    cases wx with
    | ref i =>
      simp only [RU] at rx
      obtain ⟨hi, rfl⟩ := rx
      simp only at q2
      split at q2
      · rename_i c fs ec
        split at q2
        · rename_i hc
          simp only [Bool.and_eq_true, decide_eq_true_eq] at hc
          obtain ⟨dx, gs, ea, rf⟩ := g2.rel.cell i _ ec
          obtain ⟨c1, c2⟩ := a c hc.1
          refine ⟨_, _, dx, gs, rfl, ea, c1, c2, by rw [RFs.length rf]; omega, ?_⟩
          have ts : TS0 G.K H2 (upd H2 (μ2 i) (.ins (G.ca c) dx (putF f v gs))) := TS0.write ea rfl
          have g := Gr.write (o := .ins (G.ca c) dx (putF f v gs)) (d := .ins c (fput f w fs)) g2.rel ec rfl rfl ⟨dx, _, upd_same, RFs.mono (fun _ _ => rfl) (Nat.le_refl _) ts _ _ (RFs.put rv rf)⟩
          exact q2 μ2 σ _ g (((s.on g1).on g2).on g)
        · exact False.elim q2
      · exact False.elim q2
    | _ => exact False.elim q2⟩⟩
/-- o.m(..): o an instance of the class number c; f the method's function -/
def mMeth (c : Nat) (m : Str) (f : MF) (o : ME) (es : MA) : ME := fun ρ h => bnd (o ρ h) fun x h1 => match x with
  | .ref i => match h1[i]? with
    | some (.ins c' fs) => if c' = c ∧ fget m fs = none then bnd (es ρ h1) fun ws h2 => f (.ref i :: ws) h2 else none
    | _ => none
  | _ => none
theorem w_meth {c n : Nat} {m : Str} {f : MF} {o : ME} {es : MA} (a : AL es n) : ∀ σ H Q, tE G Wx (mMeth c m f o es) σ H Q → tMethS (G.ca c) m (spM G (n + 1) f) (WE Wx) (tE G Wx o) (tA G Wx es) σ H Q := fun σ H Q ⟨μ, ρ, h, s, p⟩ =>
  ⟨μ, ρ, h, s, (Post.bnd p).mono fun μ1 h1 H1 wx g q x rx => by
    cases wx with
    | ref i =>
      have rx0 := rx
      simp only [RU] at rx
      obtain ⟨hi, rfl⟩ := rx
      simp only at q
      split at q
      · rename_i c' fs ec
        split at q
        · rename_i hc
          obtain ⟨rfl, hm⟩ := hc
          obtain ⟨dx, gs, ea, rf⟩ := g.rel.cell i _ ec
          refine ⟨_, dx, gs, rfl, ea, fget_none hm rf, μ1, ρ, h1, s.on g, (Post.bnd q).withEq.mono fun μ2 h2 H2 ws g2 ⟨q2, eq⟩ vs rs => ?_⟩
          exact ⟨μ2, h2, .ref i :: ws, g2.rel, RUs.cons (g2.ru rx0) rs, by simp [RUs.length rs, a _ _ _ _ eq], q2⟩
        · exact False.elim q
      · exact False.elim q
    | _ => exact False.elim q⟩
theorem w_meth0 {c : Nat} {m : Str} {f : MF} {o : ME} : ∀ σ H Q, tE G Wx (mMeth c m f o mNil) σ H Q → tMethS (G.ca c) m (spM G 1 f) (WE Wx) (tE G Wx o) tNil σ H Q := fun σ H Q z => by
  obtain ⟨μ, ρ, h, s, p⟩ := w_meth al_nil σ H Q z
  exact ⟨μ, ρ, h, s, p.mono fun μ' h' H' w g q v r => by
    obtain ⟨a, dx, fs, ea, e2, e3, k⟩ := q v r
    exact ⟨a, dx, fs, ea, e2, e3, w_nil _ _ _ k⟩⟩
theorem w_call0 {f : MF} : ∀ σ H Q, tE G Wx (mCB f mNil) σ H Q → tCallS (spM G 0 f) (WE Wx) tNil σ H Q := fun σ H Q z => w_nil _ _ _ (w_call al_nil σ H Q z)
/-- C(..): the class number c, f its __init__ -/
def mkEnd (n : Nat) (w : U) (h2 : Hm) : Option (Rz U) := match w with
  | .non => some (.ok (.ref n) h2)
  | _ => none
def mMake (c : Nat) (f : MF) (es : MA) : ME := fun ρ h => bnd (es ρ h) fun ws h1 => bnd (f (.ref h1.length :: ws) (h1 ++ [.ins c []])) (mkEnd h1.length)
theorem w_make {c n : Nat} {f : MF} {es : MA} (a : AL es n) : ∀ σ H Q, tE G Wx (mMake c f es) σ H Q → tMakeS (G.ca c) (spM G (n + 1) f) (WE Wx) (tA G Wx es) σ H Q := fun σ H Q ⟨μ, ρ, h, s, p⟩ =>
  ⟨μ, ρ, h, s, (Post.bnd p).withEq.mono fun μ1 h1 H1 ws g ⟨q, eq⟩ vs rs x dx nx nd ne => by
    have g1 : Gr G μ1 h1 H1 μ1 h1 (upd H1 dx (.own x)) := Gr.fresh g.rel nd
    have nx' : upd H1 dx (.own x) x = none := by rw [upd_ne ne.symm]; exact nx
    have g2 := Gr.new (o := .ins (G.ca c) dx []) (c := .ins c []) g1.rel nx' ⟨dx, [], upd_same, by simp only [RFs]⟩
    have gg := g1.trans g2
    refine ⟨_, h1 ++ [.ins c []], .ref h1.length :: ws, gg.rel, RUs.cons (by simp only [RU]; exact ⟨by simp, by rw [nu_new]⟩) (gg.rus rs), by simp [RUs.length rs, a _ _ _ _ eq], ?_⟩
    have q : Post G (PV G Q) (fun cls d H' => Wx cls d σ H') (nu μ1 h1.length x) (h1 ++ [.ins c []]) (upd (upd H1 dx (.own x)) x (.ins (G.ca c) dx [])) (bnd (f (.ref h1.length :: ws) (h1 ++ [.ins c []])) (mkEnd h1.length)) := by
      have q' : Post G (PV G Q) (fun cls d H' => Wx cls d σ H') μ1 h1 H1 (bnd (f (.ref h1.length :: ws) (h1 ++ [.ins c []])) (mkEnd h1.length)) := q
      exact q'.on gg
    have q2 := Post.bnd q
    cases er : f (.ref h1.length :: ws) (h1 ++ [.ins c []]) with
    | none => rw [er] at q2; exact q2
    | some r =>
      rw [er] at q2
      cases r with
      | ok w h3 =>
        intro μ' H' g' v rv
        have q3 := q2 μ' H' g'
        cases w with
        | non =>
          simp only [RU] at rv
          subst rv
          refine ⟨rfl, Post.ok g'.rel q3 _ ?_⟩
          simp only [RU]
          have hl : h1.length < (h1 ++ [Cell.ins c []]).length := by simp
          exact ⟨Nat.lt_of_lt_of_le hl g'.len, by rw [g'.mu _ hl, nu_new]⟩
        | _ => exact False.elim q3
      | ex c fs h3 => exact q2⟩

/-! ### range -/
def rItems (lo : Int) (n : Nat) : List U := (List.range n).map fun (k : Nat) => .int (lo + (k : Int))
def iR1 (e : ME) : MI := fun ρ h => bnd (e ρ h) fun w h1 => match w with
  | .int j => if (decide (-1000000000 ≤ j) && decide (j ≤ 1000000000)) = true then some (.ok (rItems 0 j.toNat, fun _ => True) h1) else none
  | _ => none
theorem gives_range {lo : Int} {n : Nat} : Gives G (Itr lo n) (rItems lo n) (fun _ => True) μ h H := fun j μ2 h2 H2 gr ck => by
  refine ⟨fun hj => by
    show n ≤ j
    simpa [rItems] using hj, fun w hw => ?_⟩
  unfold rItems at hw
  rw [List.getElem?_map] at hw
  by_cases hj : j < n
  · rw [List.getElem?_range hj] at hw
    cases hw
    refine ⟨hj, fun x H' y => ?_⟩
    obtain ⟨rfl, rfl⟩ := y
    exact ⟨Gr.refl gr.rel, rfl⟩
  · rw [List.getElem?_eq_none (by simpa using hj)] at hw
    cases hw
theorem w_iR1 {e : ME} : ∀ σ H R, tI G Wx (iR1 e) σ H R → iRng1 (tCons (tE G Wx e) tNil) σ H R := fun σ H R ⟨μ, ρ, h, s, p⟩ =>
  ⟨μ, ρ, h, s, (Post.bnd p).mono fun μ1 h1 H1 w g q v r => by
    cases w with
    | int j =>
      simp only [RU] at r
      subst r
      simp only at q
      split at q
      · rename_i hc
        simp only [Bool.and_eq_true, decide_eq_true_eq] at hc
        exact ⟨j, rfl, by omega, by omega, q μ1 H1 (Gr.refl g.rel) _ gives_range⟩
      · exact False.elim q
    | _ => exact False.elim q⟩
def iR2 (a b : ME) : MI := fun ρ h => bnd (a ρ h) fun x h1 => bnd (b ρ h1) fun y h2 => match x, y with
  | .int i, .int j => if ((decide (-1000000000 ≤ i) && decide (i ≤ 1000000000)) && (decide (-1000000000 ≤ j) && decide (j ≤ 1000000000))) = true then some (.ok (rItems i (j - i).toNat, fun _ => True) h2) else none
  | _, _ => none
theorem w_iR2 {a b : ME} : ∀ σ H R, tI G Wx (iR2 a b) σ H R → iRng2 (tCons (tE G Wx a) (tCons (tE G Wx b) tNil)) σ H R := fun σ H R ⟨μ, ρ, h, s, p⟩ =>
  ⟨μ, ρ, h, s, (Post.bnd p).mono fun μ1 h1 H1 wx g1 q1 x rx => ⟨μ1, ρ, h1, s.on g1, (Post.bnd q1).mono fun μ2 h2 H2 wy g2 q2 y ry => by
    cases wx with
    | int i =>
      cases wy with
      | int j =>
        simp only [RU] at rx ry
        subst rx ry
        simp only at q2
        split at q2
        · rename_i hc
          simp only [Bool.and_eq_true, decide_eq_true_eq] at hc
          exact ⟨i, j, rfl, by omega, q2 μ2 H2 (Gr.refl g2.rel) _ gives_range⟩
        · exact False.elim q2
      | _ => exact False.elim q2
    | _ => exact False.elim q2⟩⟩
/-! ### the signs of a text -/
def sItems (x : Str) : List U := x.cps.toList.map fun c => .str ⟨#[c]⟩

/-! ### while -/
def whileN (c : MT) (b : MS) : Nat → MS
  | 0, _, _ => none
  | n + 1, ρ, h => bndS ρ (c ρ h) fun k h1 => if k = true then match b ρ h1 with
      | some (.nx ρ2 h2) => whileN c b n ρ2 h2
      | some (.ct ρ2 h2) => whileN c b n ρ2 h2
      | some (.bk ρ2 h2) => some (.nx ρ2 h2)
      | r => r
    else some (.nx ρ h1)
open Classical in
noncomputable def mWhile (c : MT) (b : MS) : MS := fun ρ h => if z : ∃ n, whileN c b n ρ h ≠ none then whileN c b (choose z) ρ h else none
theorem w_while {c : MT} {b : MS} : ∀ D σ H, tS G Wx (mWhile c b) D σ H → tWhile (tT G Wx c) (tS G Wx b) D σ H := fun D σ H ⟨μ, ρ, h, s, p⟩ => by
  unfold mWhile at p
  split at p
  · rename_i z
    generalize Classical.choose z = n at p
    refine ⟨fun m σ H => ∃ μ ρ h, StOk G μ ρ h σ H ∧ PostS G Wx D μ h H (whileN c b m ρ h), ⟨n, μ, ρ, h, s, p⟩, ?_⟩
    rintro m σ H ⟨μ, ρ, h, s, p⟩
    cases m with
    | zero => exact False.elim p
    | succ m =>
      unfold whileN at p
      refine ⟨μ, ρ, h, s, (PostS.bnd s p).mono fun μ1 h1 H1 k g q => ?_⟩
      cases k with
      | false =>
        rw [if_neg Bool.false_ne_true] at q ⊢
        exact q μ1 σ H1 (Gr.refl g.rel) (s.on g)
      | true =>
        rw [if_pos rfl] at q ⊢
        refine ⟨fun σ' H' => ∃ μ ρ h, StOk G μ ρ h σ' H' ∧ PostS G Wx D μ h H' (whileN c b m ρ h), fun σ' H' z => ⟨m, Nat.lt_succ_self m, z⟩, μ1, ρ, h1, s.on g, ?_⟩
        cases e2 : b ρ h1 with
        | none => rw [e2] at q; exact q
        | some r =>
          rw [e2] at q
          cases r with
          | nx ρ2 h2 => exact fun μ3 σ3 H3 g3 s3 => ⟨μ3, ρ2, h2, s3, PostS.on q g3⟩
          | ct ρ2 h2 => exact fun μ3 σ3 H3 g3 s3 => ⟨μ3, ρ2, h2, s3, PostS.on q g3⟩
          | bk ρ2 h2 => exact q
          | rt w h2 => exact q
          | ex c fs ρ2 h2 => exact q
  · exact False.elim p
theorem whileN_mono {c : MT} {b : MS} : ∀ {n : Nat} {ρ : Ev} {h : Hm} {r : Sz}, whileN c b n ρ h = some r → whileN c b (n + 1) ρ h = some r
  | 0, _, _, _, e => by cases e
  | n + 1, ρ, h, r, e => by
    unfold whileN at e ⊢
    cases ec : c ρ h with
    | none => rw [ec] at e; cases e
    | some rc =>
      rw [ec] at e
      cases rc with
      | ex c1 fs h1 => exact e
      | ok k h1 =>
        simp only [bndS_ok] at e ⊢
        cases k with
        | false => exact e
        | true =>
          simp only [if_true] at e ⊢
          cases eb : b ρ h1 with
          | none => rw [eb] at e; cases e
          | some rb =>
            rw [eb] at e
            cases rb with
            | nx ρ2 h2 => exact whileN_mono e
            | ct ρ2 h2 => exact whileN_mono e
            | bk ρ2 h2 => exact e
            | rt w h2 => exact e
            | ex c fs ρ2 h2 => exact e
theorem whileN_le {c : MT} {b : MS} {n m : Nat} {ρ : Ev} {h : Hm} {r : Sz} (hl : n ≤ m) (e : whileN c b n ρ h = some r) : whileN c b m ρ h = some r := by
  induction hl with
  | refl => exact e
  | step _ ih => exact whileN_mono ih
theorem mWhile_eq {c : MT} {b : MS} {n : Nat} {ρ : Ev} {h : Hm} {r : Sz} (e : whileN c b n ρ h = some r) : mWhile c b ρ h = some r := by
  have z : ∃ n, whileN c b n ρ h ≠ none := ⟨n, by rw [e]; simp⟩
  unfold mWhile
  rw [dif_pos z]
  have q := Classical.choose_spec z
  cases e2 : whileN c b (Classical.choose z) ρ h with
  | none => exact absurd e2 q
  | some r2 =>
    rcases Nat.le_total n (Classical.choose z) with l | l
    · rw [whileN_le l e] at e2
      exact e2.symm
    · rw [whileN_le l e2] at e
      exact e
end
end ML

set_option maxHeartbeats 4000000
namespace ML
open PySem PySem.Spec PyProof.Rows L2

/-! ### super().__init__(e) in the __init__ of an own error over ValueError -/
section
variable {prog : Program} {w : World} {A : Around} {E : Value → Shared → Prop} {h : Heap} {g : Array GenState} {d : Drawn} {t : Nat} {os : OsState}
variable {nm q : Str} {C N : Addr} {bs bm : List Value} {hdct : Bool} {sn : List Str} {sub : List Value} {ab : Bool} {col : Option Bool} {dd : Option Addr} {k0 k1 k2 k3 k5 : Option Value}
theorem call_bwV {u e t0 : Addr} {rest : List Value} {Q : Value → Shared → Prop}
    (hC : h.get? C = some (excClassObj nm q C N bs bm hdct sn sub ab col dd k0 k1 k2 k3 k5 "ValueError.__new__")) (he : h.get? e = some (HandSPX.excO C t0)) (hu : h.get? u = some (PySem.W.kxs_mw "ValueError.__init__" e)) (hrest : rest.length ≤ sizeLine)
    (hq : ∀ h' t1, (∀ b o, b ≠ e → h.get? b = some o → h'.get? b = some o) → h'.get? e = some (HandSPX.excO C t1) → Q .none ⟨h', g, d, t, os⟩) :
    wpAny (model prog w) A (call (.ref u) rest) Q E ⟨h, g, d, t, os⟩ := by
  refine wpAny_call (codeAny_of_tree ?_)
  show wpAny _ A.in1 (callAny (.ref u) ⟨rest, []⟩) _ _ _
  simp only [callAny]
  refine wpAny_bind (wpAny_load hu ?_)
  simp only [PySem.W.kxs_mw, show (Value.type "method-wrapper" == Value.type "method" || Value.type "method-wrapper" == Value.type "builtin_function_or_method" || Value.type "method-wrapper" == Value.type "method-wrapper") = true by decide, if_true]
  refine W.KFB.if_so (by decide) ?_
  refine wpAny_bind (PySem.W.check_bound_init F.excBase_ValueError.toExcCallFacts hC he rfl ?_)
  refine wpAny_bind (wpAny_pure (wpAny_pure ?_))
  refine ⟨Code.quiet_builtin _ (by decide +kernel), codeAny_builtin F.excBase_ValueError.initEntry ?_⟩
  rw [Around.under_plainId F.excBase_ValueError.init.plain _]
  wp_walk
  refine hq _ h.objs.size (fun b o hb ho => ?_) ?_
  · rw [Heap.get?_update_other _ _ (Ne.symm hb)]
    exact Heap.get?_push_of_some _ ho
  · rw [Heap.get?_update_self _ (Heap.get?_push_of_some _ he) rfl]
    rfl
end

abbrev envS (qual : Str) (scope : Scope) (L a : Addr) (cd : Value) (cc : Addr) : Env := PySem.W.envX qual scope L a cd [("__class__", cc)]
/-- the context of such a body -/
def cxS (CX : CXT) (P : Program) (w : World) (K : PySem.W.Frag) (mg : Str → Option Value) (base : Heap) (N : List Str) (qual : Str) (scope : Scope) (f : Addr) (cd : Value) (cc : Addr) (A : Around) (outer : List Env) (s : Shared) (H : Hp) (E : XK) : Cx where
  prog := P
  w := w
  K := K
  mg := mg
  base := base
  A := A.deeper (envS qual scope s.heap.objs.size f cd cc)
  N := N
  s_0 := s
  H_0 := H
  env := envS qual scope s.heap.objs.size f cd cc
  outer := outer
  stack := envS qual scope s.heap.objs.size f cd cc :: outer
  ex := []
  calm := true
  fn := fun _ => false
  pn := []
  xe := fun e s' => wpAny (model P w) (A.deeper (envS qual scope s.heap.objs.size f cd cc)) (leaving (envS qual scope s.heap.objs.size f cd cc) e) (fun _ s'' => CX outer H s E e s'') (fun e' s'' => CX outer H s E e' s'') s'

/-- what the written part says of such a class and its __init__ -/
structure SupTxt (K : PySem.W.Frag) (mg : Str → Option Value) (C f cc cda : Addr) (qual : Str) : Prop where
  ox : OexC K C
  iC : PySem.W.findIn K (.ref C) "__init__" = some (some (.ref f))
  tI : PySem.W.typeIn K (.ref f) = some (.type "function")
  code : ∃ ccl cdd vs ccs tf, K.lookup cda = some ⟨ccl, cdd, .fields vs, ccs⟩ ∧ vs[2]? = some (.str "/claim/cut.py" tf)
  codeQ : PySem.W.codeIn K (.ref cda) qual = true
  cell : ∃ cl cld csl, K.lookup cc = some ⟨cl, cld, .cell (some (.ref C)), csl⟩
  sup : PySem.W.ks_superIn K C C "__init__" = some (some (.builtin "ValueError.__init__"))
  sub : PySem.W.subIn K (.ref C) (.type "ValueError") = some true
  mro : PySem.W.mroIn K C (.ref C) = some true
  tp : PySem.W.nsIn K cStatics "thirdparty.any" = some none
  sg : mg "super" = none

structure SupScope (N ps : List Str) (sc : Scope) : Prop where
  kind : sc.kind = ScopeKind.function
  co : sc.isCoroutine = false
  gen : sc.isGenerator = false
  nd : N.Nodup
  pre : N = ps
  par : ∀ x, x ∈ ps → sc.names.lookup x = some NameKind.local
  cls : sc.names.lookup ("__class__" : Str) = some NameKind.free
  sup : sc.names.lookup ("super" : Str) = some NameKind.globalImplicit
  nocell : ∀ y : Str × NameKind, y ∈ sc.names → y.snd ≠ NameKind.cell
  free : ∀ y : Str × NameKind, y ∈ sc.names → y.snd = NameKind.free → y.fst = ("__class__" : Str)

theorem zip_get : ∀ {ps : List Str} {us : List Value} {i : Nat} {x : Str} {u : Value}, ps.Nodup → ps[i]? = some x → us[i]? = some u → ((ps.zip us).reverse).lookup x = some u := by
  intro ps us i x u nd e1 e2
  have hm : (x, u) ∈ ps.zip us := by
    have : (ps.zip us)[i]? = some (x, u) := by
      rw [List.getElem?_zip_eq_some]
      exact ⟨e1, e2⟩
    exact List.mem_of_getElem? this
  have uq : ∀ v, (x, v) ∈ ps.zip us → v = u := by
    intro v hv
    obtain ⟨j, hj⟩ := List.mem_iff_getElem?.mp hv
    rw [List.getElem?_zip_eq_some] at hj
    have : i = j := by
      have h1 := (List.getElem?_eq_some_iff.mp e1)
      have h2 := (List.getElem?_eq_some_iff.mp hj.1)
      obtain ⟨l1, q1⟩ := h1
      obtain ⟨l2, q2⟩ := h2
      exact (List.getElem_inj nd).mp (by rw [q1, q2])
    subst this
    rw [e2] at hj
    exact (Option.some.inj hj.2).symm
  have : ∀ l : List (Str × Value), (x, u) ∈ l → (∀ v, (x, v) ∈ l → v = u) → l.lookup x = some u := by
    intro l
    induction l with
    | nil => intro h; cases h
    | cons p l ih =>
      intro h k
      obtain ⟨y, v⟩ := p
      rw [List.lookup_cons]
      by_cases hy : x = y
      · subst hy
        simp only [beq_self_eq_true]
        rw [k v List.mem_cons_self]
      · have : (x == y) = false := by simpa using hy
        rw [this]
        refine ih ?_ fun v hv => k v (List.mem_cons_of_mem _ hv)
        rcases List.mem_cons.mp h with z | z
        · cases z; exact absurd rfl hy
        · exact z
  exact this _ (by simpa using hm) fun v hv => uq v (by simpa using hv)

section
variable {CX : CXT} {P : Program} {w : World} {K : PySem.W.Frag} {mg : Str → Option Value} {base : Heap} {k : Nat} {f C cc cda : Addr} {name qual : Str} {params : Arguments} {e : Expr} {p0 p1 p2 p3 p4 : Pos} {rest : List Stmt} {scope : Scope} {dV kV doc pm ct oc : Value} {an od : Option Addr}
    {osl : Array (Option Value)} {N ps : List Str} {sp : Sp}
theorem fnS_of (lk : K.lookup f = some ⟨oc, od, .func (PySem.W.ksFn name qual params (.Expr (.Call (.Attribute (.Call (.Name "super" p0) [] [] p1) "__init__" p2) [e] [] p3) p4 :: rest) scope dV kV doc pm an (.ref cda) ct cc), osl⟩)
    (T : SupTxt K mg C f cc cda qual) (S : SupScope N ps scope) (hfile : ((P.main.file : Str) == ("/claim/cut.py" : Str)) = true) (htop : (P.main.scope.names.lookup ("super" : Str)).isSome = false)
    (har : ∃ ar : Arg, (params.posonlyargs ++ params.args).head? = some ar ∧ ps.head? = some ar.arg)
    (len : ∀ vs H Q E, sp vs H Q E → vs.length = ps.length)
    (hswap : ∀ env : Env, swapsWith (.Call (.Attribute (.Call (.Name "super" p0) [] [] p1) "__init__" p2) [e] [] p3) none p4.line env = pure false)
    (hmeth : ∀ env : Env, eval (.Call (.Attribute (.Call (.Name "super" p0) [] [] p1) "__init__" p2) [e] [] p3) env = (do
      let ov ← attributeBase (.Call (.Name "super" p0) [] [] p1) "__init__" env (eval (.Call (.Name "super" p0) [] [] p1) env)
      standAt p2.atName
      let (f, first) ← holding [ov] (getMethod ov "__init__" (pure false))
      callWith p3 f first (backTo p3 (starEach [e] env)) []))
    (hstar : ∀ env : Env, starEach [e] env = (false, eval e env) :: starEach [] env)
    (hbody : ∀ (A : Around) (outer : List Env) (s : Shared) (H : Hp) (vs : List V) (Q : VK) (E : XK), Room k (A.deeper (envS qual scope s.heap.objs.size f (.ref cda) cc)) → sp vs H Q E →
      ∃ a te t, vs.head? = some (.ref a) ∧ H a = some (exo a C none) ∧ PE (cxS CX P w K mg base N qual scope f (.ref cda) cc A outer s H E) e te ∧ PSs (cxS CX P w K mg base N qual scope f (.ref cda) cc A outer s H E) rest t ∧
        te (L2.start N vs) H fun _ H1 => H1 a = some (exo a C none) ∧ t { nx := fun _ H' => Q .non H', rt := Q } (L2.start N vs) H1) :
    FnOk P w K mg base CX (k + 1) f (PySem.W.ksFn name qual params (.Expr (.Call (.Attribute (.Call (.Name "super" p0) [] [] p1) "__init__" p2) [e] [] p3) p4 :: rest) scope dV kV doc pm an (.ref cda) ct cc) ps sp := by
  refine ⟨len, fun A outer s H args us vs Q E hr e0 hb r hsp => ?_⟩
  have hl := len _ _ _ _ hsp
  have hul : us.length = ps.length := by rw [← r.length]; exact hl
  have KX : K.In s.heap := e0.mod.kin.keeps fun b o e => (e0.bs b o e).1
  have lim : s.heap.NoLimit := e0.mod.nolimit.keeps fun b o e => (e0.bs b o e).1
  obtain ⟨cl, cld, csl, hcell⟩ := T.cell
  obtain ⟨ccl, cdd, cvs, ccs, tf, hcode, hvs⟩ := T.code
  obtain ⟨ar, har1, har2⟩ := har
  refine ks_codeAny_call_defAt (fd := PySem.W.ksFn name qual params _ scope dV kV doc pm an (.ref cda) ct cc) (body := _) (binds := ps.zip us) hr.depth (KX _ _ lk) rfl lim (PySem.W.codeRec_of KX T.codeQ) rfl hb S.nocell
    (fun y hy => S.par y.1 (List.of_mem_zip hy).1) (fun h₀ hns hk => ?_) S.co S.gen S.kind
  obtain ⟨a, te, t, hva, hHa, hpe, hps, hq⟩ := hbody A outer s H vs Q E (hr.deeper _) hsp
  have I : Inv (cxS CX P w K mg base N qual scope f (.ref cda) cc A outer s H E) [] (L2.start N vs) H { s with heap := h₀, toks := s.toks + (ps.zip us).length } := by
    have noA : ∀ b : Addr, b ∉ (cxS CX P w K mg base N qual scope f (.ref cda) cc A outer s H E).ex := fun b z => absurd (show b ∈ ([] : List Addr) from z) (by simp)
    have one : ∀ (y : Str) (c : Addr), List.lookup y [(("__class__" : Str), cc)] = some c → c = cc := fun y c z => by
      rw [List.lookup_cons] at z
      split at z
      · exact (Option.some.inj z).symm
      · cases z
    have ccb : base.get? cc = some _ := e0.mod.kin _ _ hcell
    refine ⟨⟨e0.mod, S.kind, rfl, rfl, Nat.le_refl _, fun y z c h1 h2 => ?_, fun y hy => ?_, fun y c hf h => absurd (show false = true from hf) Bool.false_ne_true, fun _ => hr.hd, Around.frames_deeper e0.frames, .inr ⟨rfl, rfl⟩, fun b z => absurd z (noA b), e0.bs, e0.bsz, fun b _ _ => noA b, fun b z => absurd z (noA b), e0.funs, e0.frf⟩,
      rfl, e0.bare, Un.kept hk, ⟨_, hns, fun i y v h1 h2 h3 => ?_⟩, fun y c h => ?_, e0.hok.fresh (Nat.le_refl _), fun y c h => ?_, fun p hp => absurd (show p ∈ ([] : List (Addr × Obj)) from hp) (by simp), e0.hok.kept hk, ?_⟩
    · have h1 : List.lookup y [(("__class__" : Str), cc)] = some c := h1
      have h2 : List.lookup z [(("__class__" : Str), cc)] = some c := h2
      have ky : ∀ x : Str, List.lookup x [(("__class__" : Str), cc)] = some c → x = "__class__" := fun x z => by
        rw [List.lookup_cons] at z
        split at z
        · rename_i q; simpa using q
        · cases z
      rw [ky y h1, ky z h2]
    · have hy : scope.names.lookup y = some .cell ∨ scope.names.lookup y = some .free := hy
      rcases hy with hy | hy
      · exact absurd rfl (S.nocell _ (PySem.mem_of_lookup hy))
      · have := S.free _ (PySem.mem_of_lookup hy) rfl
        refine ⟨cc, ?_⟩
        show List.lookup y [(("__class__" : Str), cc)] = some cc
        rw [show y = ("__class__" : Str) from this]
        simp
    · have hi : i < vs.length := by
        unfold L2.start at h2
        by_cases hi : i < vs.length
        · exact hi
        · rw [List.getElem?_append_right (by simpa using hi)] at h2
          rw [List.getElem?_replicate] at h2
          split at h2 <;> cases h2
      have ha : vs[i]? = some v := by
        unfold L2.start at h2
        rw [List.getElem?_append_left (by simpa using hi), List.getElem?_map] at h2
        cases e : vs[i]? with
        | none => rw [e] at h2; cases h2
        | some a => rw [e] at h2; cases h2; rfl
      obtain ⟨u, hu, rv⟩ := r.get ha
      have hp : ps[i]? = some y := by rw [← S.pre]; exact h1
      refine ⟨u, rv, .inl ⟨S.par y (List.mem_of_getElem? hp), ?_⟩⟩
      exact zip_get (by rw [← S.pre]; exact S.nd) hp hu
    · have : c = cc := one y c h
      subst this
      exact ⟨_, _, hk _ _ (e0.bs _ _ ccb).1, rfl⟩
    · have : c = cc := one y c h
      subst this
      exact (e0.bs _ _ ccb).2
    · unfold L2.start
      show _ = N.length
      rw [List.length_append, List.length_map, List.length_replicate]
      have : N.length = ps.length := by rw [S.pre]
      omega
  have XK := I.kIn
  have ho := exo_at I.hok hHa
  obtain ⟨t0, ho⟩ := ho
  obtain ⟨mb, hb1, hb2⟩ := I.mod.blt
  have hgl := I.mod.glob.keeps I.bk
  have hbl := hb1.keeps I.bk
  -- self
  have hself : ∃ u, us.head? = some u ∧ u = Value.ref a := by
    cases vs with
    | nil => cases hva
    | cons v vs =>
      cases hva
      cases r with
      | cons r1 r2 => exact ⟨_, rfl, r1⟩
  obtain ⟨u0, hu0, rfl⟩ := hself
  have hlook : ((ps.zip us).reverse).lookup ar.arg = some (.ref a) := by
    refine zip_get (i := 0) (by rw [← S.pre]; exact S.nd) ?_ ?_
    · rw [← List.head?_eq_getElem?]; exact har2
    · rw [← List.head?_eq_getElem?]; exact hu0
  have hloc : scope.names.lookup ar.arg = some .local := S.par _ (List.mem_of_mem_head? har2)
  refine ks_wpAt_execs_cons (ks_wpAt_Expr_any (ks_wpAt_MethodCall ?_ (hmeth _)) (by show interactive _ = false; simp [interactive, PySem.callEnv, newEnv, S.kind]) (hswap _))
  obtain ⟨nm, qn, N', bs, bm, sn, sub, ab, col, dd, k0, k1, k2, k3, k5, hC, hbm⟩ := T.ox.cls
  have hCh := XK _ _ hC
  have hcl : PySem.W.clsIn K C = some { name := nm, bases := bs, mro := .ref C :: bm, ns := N', qualname := qn, hasDict := true, slotNames := sn, subclasses := sub, abstract := ab, collection := col, hasDel := false } := by unfold PySem.W.clsIn; rw [hC] <;> rfl
  refine ks_wpAt_super_base (env := envS qual scope s.heap.objs.size f (.ref cda) cc) S.sup S.cls (by decide) rfl (XK _ _ lk) rfl har1 rfl (XK _ _ hcode) rfl hvs hfile htop ?_
  refine PySem.W.ks_loadName_global S.kind S.sup (Calls.loadGlobal_builtin (env := envS qual scope s.heap.objs.size f (.ref cda) cc) hgl T.sg hbl ((hb2 _ (by decide +kernel)).trans (show bootBuiltins "super" = some (.type "super") by decide +kernel)) ⟨rfl, ?_⟩)
  refine wpAny_loadName_free S.kind S.cls rfl ⟨_, XK _ _ hcell, rfl⟩ ?_
  refine wpAny_loadName_local S.kind hloc hns hlook ?_
  have Ia : PySem.W.InstAt h₀ a { cls := .ref C, dict := none, data := .fields #[.ref t0, .none, .none, .none, .bool false, .none] } C none := ⟨ho, rfl, rfl, trivial⟩
  refine ks_wpAny_isType_cls hCh rfl ⟨rfl, ?_⟩
  refine ks_wpAny_call_super hCh rfl ho rfl (fun c z => nomatch z) (PySem.W.looks_mroIn XK T.mro) (fun h1 e1 kk1 => ?_)
  have I1 := I.kept (t' := s.toks + (ps.zip us).length) kk1
  have hIs : PySem.W.Looks (model P w) h1 (isInstance (.ref a) (.type "ValueError")) true := (PySem.W.InstAt.type (M := model P w) (⟨kk1 _ _ ho, rfl, rfl, trivial⟩ : PySem.W.InstAt h1 a { cls := .ref C, dict := none, data := .fields #[.ref t0, .none, .none, .none, .bool false, .none] } C none)).andThen (PySem.W.looks_subIn I1.kIn T.sub)
  have hsup := T.sup
  unfold PySem.W.ks_superIn at hsup
  rw [hcl] at hsup
  refine PySem.W.kxs_getMethod PySem.W.kxs_ValueError e1 (PySem.W.looks_opaque I1.kIn T.tp) (l₀ := .ref C :: bm) ?_ rfl I1.kIn hsup hIs (PySem.W.ks_ne XK Ia hcl) (by decide) ?_
  · exact fun A Q E s k q => wpAny_bind ((PySem.W.looks_clsIn I1.kIn hcl) A _ E s k (wpAny_pure q))
  have I2 := I1.kept (t' := s.toks + (ps.zip us).length + 1) (h' := h1.push (PySem.W.kxs_mw "ValueError.__init__" a)) (fun b u z => Heap.get?_push_of_some _ z)
  rw [hstar]
  refine PySem.W.kxs_callWith (i := "ValueError.__init__") (x := a) rfl (Calls.evalArgs_plain ?_)
  -- pins: the bound wrapper stands while the argument is reckoned
  have hmw : (h1.push (PySem.W.kxs_mw "ValueError.__init__" a)).get? h1.objs.size = some (PySem.W.kxs_mw "ValueError.__init__" a) := Heap.get?_push_at rfl rfl
  have Hn : H h1.objs.size = none := I1.hok.fresh (Nat.le_refl _)
  have I3 : Inv (cxS CX P w K mg base N qual scope f (.ref cda) cc A outer s H E) [(h1.objs.size, PySem.W.kxs_mw "ValueError.__init__" a)] (L2.start N vs) H _ := I2.pins_of fun p hp => by
    rw [List.mem_singleton] at hp
    subst hp
    refine ⟨hmw, Hn, fun z => ?_, I1.nofs (Nat.le_refl _), fun v z => nomatch z⟩
    exact absurd I1.lt (by rw [← z]; exact Nat.lt_irrefl _)
  refine Calls.spliced_cons (thn (hpe.run _ _ _ _ _ I3 hq) fun v s4 ⟨x, H1, I4, rx, hHa1, hq4⟩ => Calls.spliced_nil ?_)
  have hmw4 := (I4.pin (h1.objs.size, PySem.W.kxs_mw "ValueError.__init__" a) (by simp)).1
  refine ⟨hmw4, ?_⟩
  obtain ⟨t4, ho4⟩ := exo_at I4.hok hHa1
  obtain ⟨hp, gg, dr, tk, os⟩ := s4
  refine call_bwV (I4.kIn _ _ hC) ho4 hmw4 (by show 1 ≤ sizeLine; decide) fun h' t5 kk5 hx5 => ?_
  have J := I4.write (t' := tk) (x := a) (e := a) (o := exo a C none) (by rw [hHa1]; exact True.intro) (.inl rfl) kk5 ⟨_, hx5⟩ (exo_ok hx5)
  have eu : upd H1 a (exo a C none) = H1 := by
    funext b
    by_cases hb : b = a
    · rw [hb, upd_same, hHa1]
    · rw [upd_ne hb]
  rw [eu] at J
  refine wpAt_of_wpAny (wpAny_mono (hps.run _ _ _ _ _ J hq4) (fun fl s' hs => ?_) fun e s' hs => hs)
  have fin : ∀ {σ' : L2.St} {H' : Hp} {v : V} {u : Value} {pn : List (Addr × Obj)}, Inv (cxS CX P w K mg base N qual scope f (.ref cda) cc A outer s H E) pn σ' H' s' → RelV v u → Q v H' → CE outer P w H s Q u s' :=
    fun {σ' H' v u pn} J rv q => ⟨v, H', J.os, J.bare, J.base, J.hok, rv, q⟩
  cases fl with
  | ret u =>
    obtain ⟨v, σ', H', J, rv, q⟩ := hs
    exact fin J rv q
  | next =>
    obtain ⟨σ', H', J, q⟩ := hs
    exact fin (v := V.non) (u := Value.none) J rfl q
  | brk =>
    obtain ⟨_, _, _, q⟩ := hs
    exact False.elim q
  | cont =>
    obtain ⟨_, _, _, q⟩ := hs
    exact False.elim q
end
end ML

set_option maxHeartbeats 4000000
namespace ML
open PySem PySem.Spec PyProof.Rows L2

/-! ### an exception that is caught stands in the abstract heap from then on -/
section
variable {X : Cx} {pins : List (Addr × Obj)} {σ : L2.St} {H : Hp} {s : Shared}
theorem exv_ok {P : Program} {w : World} {H : Hp} {h : Heap} {a : Addr} {cls : Value} {d : Option Addr} {oe : Obj} {vs : Array Value} (e : h.get? a = some oe) (z : Zc cls d oe) (hd : oe.data = .fields vs) : ObjOk P w H h a (ExV cls d a) :=
  ⟨⟨oe, vs, e, z, hd⟩, ⟨oe, e⟩, fun _ _ ⟨o, v, q, r⟩ k => ⟨o, v, k o q, r⟩⟩
/-- an object that came behind the entry is tracked from now on -/
theorem Inv.track {a : Addr} {o : HO} (I : Inv X pins σ H s) (hn : H a = none) (h0 : X.s_0.heap.get? a = none) (hp : ∀ p ∈ X.pn ++ pins, p.1 ≠ a) (hL : a ≠ X.env.locals) (hc : ∀ x c, X.env.cells.lookup x = some c → c ≠ a)
    (new : ObjOk X.prog X.w (upd H a o) s.heap a o) : Inv X pins σ (upd H a o) s := by
  have nb : ∀ b ob, X.s_0.heap.get? b = some ob → b ≠ a := fun b ob e z => by rw [z, h0] at e; cases e
  refine ⟨I.ok, I.os, I.bare, ⟨I.base.keep, I.base.slot, fun b ob e n hb => ?_, I.base.there, fun b xs e => ?_, fun b ob u e => ?_, fun b ps e => ?_⟩, I.loc, I.cell, ?_, fun x c e => ?_, fun p hp' => ?_, fun b u e => ?_, I.len⟩
  · rw [upd_ne (nb b ob e)]; exact I.base.free b ob e n hb
  · have q := I.base.tups b xs e; rw [upd_ne (ne_of_none q hn)]; exact q
  · have q := I.base.frzs b ob u e; rw [upd_ne (ne_of_none q hn)]; exact q
  · obtain ⟨m, q⟩ := I.base.tbls b ps e; exact ⟨m, by rw [upd_ne (ne_of_none q hn)]; exact q⟩
  · rw [upd_ne hL.symm]; exact I.free
  · rw [upd_ne (hc x c e)]; exact I.freeC x c e
  · obtain ⟨q1, q2, q3⟩ := I.pin p hp'
    exact ⟨q1, by rw [upd_ne (hp p hp')]; exact q2, q3⟩
  · by_cases hb : b = a
    · subst hb
      rw [upd_same] at e
      cases e
      exact new
    · rw [upd_ne hb] at e
      exact (I.hok b u e).stay (fun c v _ q => q) (fun c q => by rw [upd_ne (ne_of_none q hn)]; exact q) fun c xs q => by rw [upd_ne (ne_of_none q hn)]; exact q

/-- the suite's context, the exception tracked -/
theorem Inv.suiteT {H : Hp} (I : Inv X pins σ H s) (a : Addr) : Inv (X.suite a (X.pn ++ pins)) [] σ H s :=
  ⟨I.ok.suite _ _, I.os, I.bare, I.base, I.loc, I.cell, I.free, I.freeC, fun p hp => I.pin p (by simpa using hp), I.hok, I.len⟩
theorem Inv.unsuiteT {a : Addr} {pn' : List (Addr × Obj)} (I : Inv (X.suite a (X.pn ++ pins)) pn' σ H s) (ok : X.Ok) : Inv X pins σ H s :=
  ⟨ok, I.os, I.bare, I.base, I.loc, I.cell, I.free, I.freeC, fun p hp => I.pin p (List.mem_append_left _ hp), I.hok, I.len⟩
end
/-- what the clause 'except x as n' wishes of an exception of the body: slot i is n's; the exception is tracked -/
def wAsT (K : PySem.W.Frag) (c : Value) (i : Nat) (ts : TS) (Wout : WX) (D : Ends) : WX := fun cls d σ H =>
  ∃ b, PySem.W.exmOne K cls c = some b ∧ (b = true → ∀ a, H a = none → ts { nx := fun σ' H' => D.nx (σ'.set i none) H', rt := D.rt, bk := fun σ' H' => D.bk (σ'.set i none) H', ct := fun σ' H' => D.ct (σ'.set i none) H' } (σ.set i (some (.ref a))) (upd H a (ExV cls d a))) ∧
    (b = false → Wout cls d σ H)
section
variable {X : Cx} {x n : Str} {c : Value} {i : Nat} {body suite : List Stmt} {b₀ : Stmt} {np pos pos' : Pos} {tb : WX → TS} {ts : TS} {Wout : WX}
theorem ps_try_asT (hs : X.stack = X.env :: X.outer) (hf : X.env.frame = some X.env.locals) (hex : X.ex = []) (hN : X.N.Nodup) (hi : X.N[i]? = some n) (hln : X.env.kindOf n = some .local) (hc : Names X x c) (tk : Takes X Wout)
    (hb : ∀ (W : WX) (pn : List (Addr × Obj)) (xe : Value → Shared → Prop), Takes (X.tr pn xe) W → PassesOwn (model X.prog X.w) X.A X.env xe → PSs (X.tr pn xe) body (tb W))
    (hsu : ∀ (a : Addr) (pn : List (Addr × Obj)), PSs (X.suite a pn) (b₀ :: suite) ts) :
    PS X (.Try body [.ExceptHandler (some (.Name x np)) (some n) (b₀ :: suite) pos'] [] [] pos) (fun D σ H => tb (wAsT X.K c i ts Wout D) D σ H) := by
  refine ⟨fun pins s σ H D I h => ?_⟩
  have ok := I.ok
  have hfr : X.A.frames = some (X.env :: X.outer) := by rw [ok.frames, hs]
  have hloc : Loc X.env.scope n := .inl hln
  refine wpAny_Try_except ?_
  refine wpAny_mono ((hb (wAsT X.K c i ts Wout D) (X.pn ++ pins) (fun e s₁ => wpAny (model X.prog X.w) X.A (noteFrame e X.env) (fun _ s₂ => wpAny (model X.prog X.w) X.A (setFlight e none) (fun _ s₃ =>
    wpAny (model X.prog X.w) X.A (handleBy e X.env [.ExceptHandler (some (.Name x np)) (some n) (b₀ :: suite) pos']) (SP X pins D) X.xe s₃) X.xe s₂) X.xe s₁) (fun u s' xx => ?_) PassesOwn.looking).run [] s σ H D (I.toTry _) h) (fun f s1 hsp => ?_) (fun e s1 he => he)
  · obtain ⟨a, B, sI, pins', σ', H', cls, d, rfl, J', nb, up, sky, na, os, ag, b, hb1, hyes, hno⟩ := xx
    have J : Inv X pins σ' H' sI := J'.ofTry ok
    have sky' : Sky B (X.env :: X.outer) a (Zc cls d) X.env.locals s'.heap := by rw [← hs]; exact sky
    show wpAny (model X.prog X.w) X.A (noteFrame (.ref a) X.env) _ _ _
    refine Sky.land Zc.steady hfr hf sky' fun h3 fl3 up3 => ?_
    have J3 : Inv X pins σ' H' { s' with heap := h3 } := J.landed nb fl3.1 (up.trans up3) os ag
    obtain ⟨oe3, vs3, he3, hz3, hd3⟩ := fl3.there
    have notFr : ∀ {h : Heap} {o : Obj} {vs : Array Value}, h.FunFrames B (X.env :: X.outer) → h.get? a = some o → o.data = .fields vs → a ∉ frs (X.env :: X.outer) := fun {h o vs} ff e dd hm => by
      obtain ⟨_, o', e', hnf⟩ := ff.mem hm
      rw [e] at e'; cases e'
      exact hnf _ dd
    have nfr := notFr fl3.2.2.1 he3 hd3
    have nL : a ≠ X.env.locals := fun z => nfr (List.mem_filterMap.mpr ⟨X.env, List.mem_cons_self, by rw [hf, z]⟩)
    have nF : a ∉ X.fs := fun hm => by
      obtain ⟨e, he, q⟩ := List.mem_filterMap.mp hm
      exact nfr (List.mem_filterMap.mpr ⟨e, List.mem_cons_of_mem _ he, q⟩)
    -- it is none of what stood before it was made
    have nI : sI.heap.get? a = none := by
      cases q : sI.heap.get? a with
      | none => rfl
      | some o =>
        have z := nb a o q (by rw [hs]; exact nfr)
        rw [fl3.2.1] at z
        cases z
    have n0 : X.s_0.heap.get? a = none := by
      cases q : X.s_0.heap.get? a with
      | none => rfl
      | some o =>
        obtain ⟨o', z⟩ := J.base.there a o q (by rw [hex]; exact fun z => nomatch z)
        rw [nI] at z
        cases z
    have nP : ∀ p ∈ X.pn ++ pins, p.1 ≠ a := fun p hp z => by
      have q := (J.pin p hp).1
      rw [z, nI] at q
      cases q
    have nC : ∀ x c, X.env.cells.lookup x = some c → c ≠ a := fun x c e z => by
      obtain ⟨v, o, q, _⟩ := J.cell x c e
      rw [z, nI] at q
      cases q
    refine wpAny_handleBy_cons (codeAny_handlers_test ?_) (by intro q; cases q)
    have LT : PySem.W.Looks (model X.prog X.w) h3 (typeOf (.ref a)) cls := fun A Q E s k q => wpAny_typeOf_ref (k _ _ he3) (by rw [hz3.1]; exact q)
    have LM := PySem.W.exm_one (M := model X.prog X.w) (J3.kIn) LT hb1
    have S3 := J3.suite he3 hd3 na nL nF
    have test : ∀ {Q : Value → Shared → Prop} {E : Value → Shared → Prop}, Q c { s' with heap := h3 } → wpAny (model X.prog X.w) (X.A.mark (some (.ref a))) (eval (.Name x np) X.env) Q E { s' with heap := h3 } := fun {Q E} q => by
      obtain ⟨hg, hdbg, hm | ⟨hm, hv, hnn⟩⟩ := hc
      · exact ld_glob (X := X.suite a ((a, oe3) :: (X.pn ++ pins))) S3 hg hm q hdbg
      · exact ld_blt (X := X.suite a ((a, oe3) :: (X.pn ++ pins))) S3 hg hm hv q hnn hdbg
    refine test (LM.here ?_)
    cases b with
    | true =>
      refine codeAny_handlers_suite_as ?_
      refine HandSPX.lands_againZ fl3 fun h4 fl4 up4 => ?_
      have J4 : Inv X pins σ' H' { s' with heap := h4 } := J.landed nb fl4.1 ((up.trans up3).trans up4) os ag
      obtain ⟨oe4, vs4, he4, hz4, hd4⟩ := fl4.there
      have J5 := Inv.track (o := ExV cls d a) J4 na n0 nP nL nC (exv_ok he4 hz4 hd4)
      have S4 := Inv.suiteT J5 a
      refine store_ok (X := X.suite a (X.pn ++ pins)) (v := .ref a) S4 hN hi hloc rfl (fun s5 S5 => ?_) (.inr hln)
      refine wpAny_mono ((hsu a (X.pn ++ pins)).run [] s5 _ (upd H' a (ExV cls d a)) _ S5 (hyes rfl a na)) (fun f s6 hsp => ?_) (fun _ _ z => False.elim z)
      have end_ : ∀ {σ6 : L2.St} {H6 : Hp} {Q : Shared → Prop}, Inv (X.suite a (X.pn ++ pins)) [] σ6 H6 s6 → (∀ s7, Inv X pins (σ6.set i none) H6 s7 → Q s7) →
          wpAny (model X.prog X.w) X.A (do bindName X.env n .none; unbindBehindTheSuite X.env n pos') (fun _ s7 => Q s7) X.xe s6 := fun {σ6 H6 Q} S6 hq => gone_ok (Inv.unsuiteT S6 ok) hN hi hln hq
      cases f with
      | next =>
        obtain ⟨σ6, H6, S6, q6⟩ := hsp
        exact end_ S6 fun s7 J7 => ⟨_, _, J7, q6⟩
      | brk =>
        obtain ⟨σ6, H6, S6, q6⟩ := hsp
        exact end_ S6 fun s7 J7 => ⟨_, _, J7, q6⟩
      | cont =>
        obtain ⟨σ6, H6, S6, q6⟩ := hsp
        exact end_ S6 fun s7 J7 => ⟨_, _, J7, q6⟩
      | ret u =>
        obtain ⟨v6, σ6, H6, S6, r6, q6⟩ := hsp
        exact end_ S6 fun s7 J7 => ⟨_, _, _, J7, r6, q6⟩
    | false =>
      show wpAny _ X.A (handleBy (.ref a) X.env []) _ _ _
      refine wpAny_handleBy_nil ?_
      obtain ⟨k1, k2, k3, oe, vs, T, oT, ts', he, hz, hd, h1, hr⟩ := id fl3
      unfold PySem.passOn
      refine wpAny_bind (wpAny_field he hd h1 ?_)
      rw [if_neg (show ¬ ((Value.ref T == Value.none) = true) from by simp)]
      have fin : wpAny (model X.prog X.w) X.A (setFlight (.ref a) X.env.frame) (fun _ s4 => wpAny (model X.prog X.w) X.A (throw (.ref a) : Sem Flow) (SP X pins D) X.xe s4) X.xe { s' with heap := h3 } := by
        rw [hf]
        refine HandSPX.setFlight_upZ fl3 fun h4 hh4 up4 => wpAny_throw (tk _ _ ?_)
        exact ⟨a, B, sI, pins, σ', H', cls, d, rfl, J, nb, (up.trans up3).trans up4, .inr (.inr (by rw [hs]; exact hh4)), na, os, ag, hno rfl⟩
      first
        | exact wpAny_bind (wpAny_pure (wpAny_bind fin))
        | exact wpAny_bind fin
  · cases f with
    | next =>
      obtain ⟨σ', H', J', q⟩ := hsp
      exact wpAny_execs_nil ⟨σ', H', J'.ofTry ok, q⟩
    | brk =>
      obtain ⟨σ', H', J', q⟩ := hsp
      exact ⟨σ', H', J'.ofTry ok, q⟩
    | cont =>
      obtain ⟨σ', H', J', q⟩ := hsp
      exact ⟨σ', H', J'.ofTry ok, q⟩
    | ret u =>
      obtain ⟨v, σ', H', J', r, q⟩ := hsp
      exact ⟨v, σ', H', J'.ofTry ok, r, q⟩
end

/-! ### e.f, isinstance(e, C) of such an exception -/
/-- what an own error's class must say -/
structure ExcK (K : PySem.W.Frag) (C : Addr) : Prop where
  cl : (PySem.W.clsIn K C).isSome = true
  ga : PySem.W.findIn K (.ref C) "__getattribute__" = some (some (.builtin "BaseException.__getattribute__"))
  gg : PySem.W.findIn K (.ref C) "__getattr__" = some none
  sb : PySem.W.subIn K (.ref C) (.type "BaseException") = some true
  hd : PySem.W.hasDictIn K C = true
  ha : PySem.W.findIn K (.ref C) "__class__" = some (some (.builtin "object.__class__"))
  hn : PySem.W.specialIn K (.builtin "object.__class__") "__get__" = some (some (.builtin "getset_descriptor.__get__"))
  ht : PySem.W.takesIn K (.builtin "object.__class__") = some true
  hm : PySem.W.mroIn K C (.type "object") = some true
section
variable {X : Cx} {pins : List (Addr × Obj)} {σ : L2.St} {H : Hp} {s : Shared}
theorem exv_at {P : Program} {w : World} {H : Hp} {h : Heap} {a : Addr} {cls : Value} {d : Option Addr} (hok : HOk P w H h) (he : H a = some (ExV cls d a)) : ∃ (oe : Obj) (vs : Array Value), h.get? a = some oe ∧ Zc cls d oe ∧ oe.data = .fields vs := by
  have x : ObjOk P w H h a (.ext fun h => ∃ (oe : Obj) (vs : Array Value), h.get? a = some oe ∧ Zc cls d oe ∧ oe.data = .fields vs) := hok a _ he
  exact x.1
theorem exv_inst (I : Inv X pins σ H s) {a C : Addr} {d : Option Addr} (he : H a = some (ExV (.ref C) d a)) (hd : d = none ∨ ∃ dd gs, d = some dd ∧ H dd = some (.xd gs)) : ∃ oe od, PySem.W.InstAt s.heap a oe C od := by
  obtain ⟨oe, vs, e, z, q⟩ := exv_at I.hok he
  have hno : PySem.W.notCls oe = true := by unfold PySem.W.notCls; rw [q] <;> rfl
  rcases hd with rfl | ⟨dd, gs, rfl, ed⟩
  · exact ⟨oe, none, e, z.1, hno, by rw [z.2]; trivial⟩
  · have hx : ObjOk X.prog X.w H s.heap dd (.xd gs) := I.hok dd _ ed
    obtain ⟨mA, hns, hr⟩ := hx
    obtain ⟨od, ho, hl⟩ := lookIn_ns hns
    exact ⟨oe, some od, e, z.1, hno, by rw [z.2]; exact ho⟩
/-- e.f: of an instance, or of a caught exception -/
def tFldX (K : PySem.W.Frag) (ta : TE) (f : Str) : TE := fun σ H Q => ta σ H fun x H1 => (∃ a C dx fs v, x = .ref a ∧ H1 a = some (.ins C dx fs) ∧ Cls K C ∧ NoAttr K C f ∧ fs.lookup f = some v ∧ Q v H1) ∨
  (∃ a C dd gs v, x = .ref a ∧ H1 a = some (ExV (.ref C) (some dd) a) ∧ ExcK K C ∧ PySem.W.findIn K (.ref C) f = some none ∧ H1 dd = some (.xd gs) ∧ gs.lookup f = some v ∧ Q v H1)
theorem pe_fldX {e : Expr} {ta : TE} {f : Str} {pos : Pos} (he : PE X e ta) (hb : attributeBase e f X.env (eval e X.env) = eval e X.env := by rfl) : PE X (.Attribute e f pos) (tFldX X.K ta f) := by
  refine ⟨fun pins s σ H Q I h => attr_of hb (thn (he.run pins s σ H _ I h) fun u s1 hh => ?_)⟩
  obtain ⟨x, H1, I1, rx, hh⟩ := hh
  rcases hh with ⟨a, C, dx, fs, v, rfl, ea, c, n, l, q⟩ | ⟨a, C, dd, gs, v, rfl, ea, c, n, ed, l, q⟩
  · obtain rfl : u = Value.ref a := rx
    exact getattr_ok I1 ea c n l fun u s' I2 r => ⟨v, H1, I2, r, q⟩
  · obtain rfl : u = Value.ref a := rx
    obtain ⟨oe, vs, e1, z, hd⟩ := exv_at I1.hok ea
    have hx : ObjOk X.prog X.w H1 s1.heap dd (.xd gs) := I1.hok dd _ ed
    obtain ⟨mA, hns, hr⟩ := hx
    obtain ⟨od, ho, hl⟩ := lookIn_ns hns
    obtain ⟨u, hu, ru⟩ := RelO.some_of (v := v) (o := mA f) (by rw [← l]; exact hr f)
    have J : PySem.W.InstAt s1.heap a oe C (some od) := ⟨e1, z.1, by unfold PySem.W.notCls; rw [hd] <;> rfl, by rw [z.2]; exact ho⟩
    exact HandSPX.exc_get I1.kIn J c.ga c.gg c.sb (PySem.W.findObj_own c.hd n rfl (by rw [hl, hu])) (handed_of ru) ⟨v, H1, I1.tok _, ru, q⟩
/-- isinstance(e, c) of a caught exception -/
def rIsV (K : PySem.W.Frag) : List V → Hp → VK → Prop := fun xs H Q => ∃ (a C : Addr) (d : Option Addr) (c : V) (u : Value) (b : Bool), xs = [.ref a, c] ∧ ClsV c u ∧ H a = some (ExV (.ref C) d a) ∧ (d = none ∨ ∃ dd gs, d = some dd ∧ H dd = some (.xd gs)) ∧ ExcK K C ∧
  PySem.W.kitOne K (.ref C) u = some b ∧ Q (.bl b) H
theorem call_isV : CallR X (.builtin "isinstance") (rIsV X.K) := by
  intro pins s σ H xs us Q I r h
  obtain ⟨a, C, d, c, u, b, rfl, k, ea, hd, T, e, q⟩ := h
  obtain ⟨u1, u2, rfl, r1, r2⟩ := vals2 r
  have e2 := k.eq r2
  subst e2
  obtain rfl : u1 = Value.ref a := r1
  obtain ⟨oe, od, J⟩ := exv_inst I ea hd
  exact PySem.W.kia_one (PySem.W.kitx_exc T.cl T.ga T.gg T.sb T.ha T.hn T.ht T.hm) I.kIn J e (fun z => nomatch z) fun tk => ⟨.bl b, H, I.tok tk, rfl, q⟩
end
end ML

set_option maxHeartbeats 4000000
namespace ML
open PySem L2
section
variable {G : Gm} {Wx : WX} {μ μ' : Nat → Addr} {h h' : Hm} {H H' : Hp} {ρ : Ev} {σ : L2.St}

/-! ### e.f -/
structure AtX (G : Gm) (f : Str) (ins exc : Nat → Bool) : Prop where
  ins : ∀ c, ins c = true → Cls G.K (G.ca c) ∧ NoAttr G.K (G.ca c) f
  exc : ∀ c, exc c = true → ExcK G.K (G.ca c) ∧ PySem.W.findIn G.K (.ref (G.ca c)) f = some none
def mAttrX (f : Str) (ins exc : Nat → Bool) (o : ME) : ME := fun ρ h => bnd (o ρ h) fun x h1 => match x with
  | .ref i => match h1[i]? with
    | some (.ins c fs) => if ins c = true then match fget f fs with
        | some w => some (.ok w h1)
        | none => none
      else none
    | some (.exc c fs) => if exc c = true then match fget f fs with
        | some w => some (.ok w h1)
        | none => none
      else none
    | _ => none
  | _ => none
theorem w_attrX {f : Str} {ins exc : Nat → Bool} {o : ME} (a : AtX G f ins exc) : ∀ σ H Q, tE G Wx (mAttrX f ins exc o) σ H Q → tFldX G.K (tE G Wx o) f σ H Q := fun σ H Q ⟨μ, ρ, h, s, p⟩ =>
  ⟨μ, ρ, h, s, (Post.bnd p).mono fun μ1 h1 H1 wx g q x rx => by
    cases wx with
    | ref i =>
      simp only [RU] at rx
      obtain ⟨hi, rfl⟩ := rx
      simp only at q
      split at q
      · rename_i c fs ec
        split at q
        · rename_i hc
          split at q
          · rename_i w ew
            obtain ⟨dx, gs, ea, rf⟩ := g.rel.cell i _ ec
            obtain ⟨v, ev, rv⟩ := fget_ok ew rf
            obtain ⟨c1, c2⟩ := a.ins c hc
            exact .inl ⟨_, _, dx, gs, v, rfl, ea, c1, c2, ev, Post.ok g.rel q _ rv⟩
          · exact False.elim q
        · exact False.elim q
      · rename_i c fs ec
        split at q
        · rename_i hc
          split at q
          · rename_i w ew
            obtain ⟨cls, d, ea, ecl, rx⟩ := g.rel.cell i _ ec
            subst ecl
            rcases rx with ⟨rfl, _⟩ | ⟨dd, gs, rfl, ed, rf⟩
            · cases ew
            · obtain ⟨v, ev, rv⟩ := fget_ok ew rf
              obtain ⟨c1, c2⟩ := a.exc c hc
              exact .inr ⟨_, _, dd, gs, v, rfl, ea, c1, c2, ed, ev, Post.ok g.rel q _ rv⟩
          · exact False.elim q
        · exact False.elim q
      · exact False.elim q
    | _ => exact False.elim q⟩

/-! ### isinstance -/
inductive TyK where
  | non | bl | int | str | lst | tup | ins (c : Nat) | exc (c : Nat)
def tyK (w : U) (h : Hm) : Option TyK := match w with
  | .non => some .non
  | .bl _ => some .bl
  | .int _ => some .int
  | .str _ => some .str
  | .tup _ => some .tup
  | .ref i => match h[i]? with
    | some (.lst _) => some .lst
    | some (.ins c _) => some (.ins c)
    | some (.exc c _) => some (.exc c)
    | _ => none
def tyVal (ca : Nat → Addr) : TyK → Value
  | .non => .type "NoneType"
  | .bl => .type "bool"
  | .int => .type "int"
  | .str => .type "str"
  | .lst => .type "list"
  | .tup => .type "tuple"
  | .ins c => .ref (ca c)
  | .exc c => .ref (ca c)
/-- what an own class must say, so that isinstance asks its instances rightly -/
structure InsK (K : PySem.W.Frag) (C : Addr) : Prop where
  cl : Cls K C
  ha : PySem.W.findIn K (.ref C) "__class__" = some (some (.builtin "object.__class__"))
  hn : PySem.W.specialIn K (.builtin "object.__class__") "__get__" = some (some (.builtin "getset_descriptor.__get__"))
  htk : PySem.W.takesIn K (.builtin "object.__class__") = some true
  hm : PySem.W.mroIn K C (.type "object") = some true
/-- the answers for the class u -/
structure IsiC (G : Gm) (tab : TyK → Option Bool) (cv : V) (u : Value) : Prop where
  cls : ClsV cv u
  ok : ∀ k b, tab k = some b → PySem.W.kitOne G.K (tyVal G.ca k) u = some b
  ins : ∀ c b, tab (.ins c) = some b → InsK G.K (G.ca c)
  exc : ∀ c b, tab (.exc c) = some b → ExcK G.K (G.ca c)
def mIsi (tab : TyK → Option Bool) (a : ME) : ME := fun ρ h => bnd (a ρ h) fun w h1 => match tyK w h1 with
  | some k => match tab k with
    | some b => some (.ok (.bl b) h1)
    | none => none
  | none => none
theorem w_isi {tab : TyK → Option Bool} {cv : V} {u : Value} {a : ME} (t : IsiC G tab cv u) : ∀ σ H Q, tE G Wx (mIsi tab a) σ H Q → tCB (fun xs H Q => rIsi G.K xs H Q ∨ rIsV G.K xs H Q) (tCons (tE G Wx a) (tCons (tC cv) tNil)) σ H Q := fun σ H Q ⟨μ, ρ, h, s, p⟩ =>
  ⟨μ, ρ, h, s, (Post.bnd p).mono fun μ1 h1 H1 w g q v r => by
    show (rIsi G.K [v, cv] H1 Q ∨ rIsV G.K [v, cv] H1 Q)
    split at q
    · rename_i k ek
      split at q
      · rename_i b eb
        have e := t.ok k b eb
        have fin : ∀ tv, TyX G.K H1 v tv → tv = tyVal G.ca k → rIsi G.K [v, cv] H1 Q := fun tv ty etv => by
          subst etv
          exact ⟨v, cv, _, u, b, rfl, t.cls, ty, e, Post.ok g.rel q _ rfl⟩
        cases w with
        | non => cases ek; simp only [RU] at r; subst r; exact .inl (fin _ (.base .non) rfl)
        | bl x => cases ek; simp only [RU] at r; subst r; exact .inl (fin _ (.base (.bl x)) rfl)
        | int x => cases ek; simp only [RU] at r; subst r; exact .inl (fin _ (.base (.int x)) rfl)
        | str x => cases ek; simp only [RU] at r; subst r; exact .inl (fin _ (.base (.str x)) rfl)
        | tup ws =>
          cases ek
          simp only [RU] at r
          obtain ⟨a, xs, rfl, st, _⟩ := r
          rcases st with (st | ⟨o, st⟩) | ⟨o, its, n, hk, hc, _⟩
          · exact .inl (fin _ (.base (.tup st)) rfl)
          · exact .inl (fin _ (.fTuple st) rfl)
          · exact .inl (fin _ (.kTuple hk hc) rfl)
        | ref i =>
          simp only [RU] at r
          obtain ⟨hi, rfl⟩ := r
          unfold tyK at ek
          simp only at ek
          split at ek
          · rename_i ws ec
            cases ek
            obtain ⟨xs, ea, _⟩ := g.rel.cell i _ ec
            exact .inl (fin _ (.base (.lst ea)) rfl)
          · rename_i c fs ec
            cases ek
            obtain ⟨dx, gs, ea, _⟩ := g.rel.cell i _ ec
            have z := t.ins c b eb
            exact .inl (fin _ (.base (.ins ea z.cl z.ha z.hn z.htk z.hm)) rfl)
          · rename_i c fs ec
            cases ek
            obtain ⟨cls, d, ea, ecl, rx⟩ := g.rel.cell i _ ec
            subst ecl
            refine .inr ⟨_, _, d, cv, u, b, rfl, t.cls, ea, ?_, t.exc c b eb, e, Post.ok g.rel q _ rfl⟩
            rcases rx with ⟨_, rfl⟩ | ⟨dd, gs, rfl, ed, _⟩
            · exact .inl rfl
            · exact .inr ⟨dd, gs, rfl, ed⟩
          · cases ek
      · exact False.elim q
    · exact False.elim q⟩

/-! ### try: body, except c as n (slot i): suite -/
def tryEnd (i : Nat) : Option Sz → Option Sz
  | some (.nx ρ h) => some (.nx (ρ.set i none) h)
  | some (.bk ρ h) => some (.bk (ρ.set i none) h)
  | some (.ct ρ h) => some (.ct (ρ.set i none) h)
  | r => r
def mTry (tab : Nat → Option Bool) (i : Nat) (body suite : MS) : MS := fun ρ h => match body ρ h with
  | some (.ex c fs ρ1 h1) => match tab c with
    | some true => match suite (ρ1.set i (some (.ref h1.length))) (h1 ++ [.exc c fs]) with
      | some (.ex _ _ _ _) => none
      | r => tryEnd i r
    | some false => some (.ex c fs ρ1 h1)
    | none => none
  | r => r
/-- the clause's class: whom it takes -/
def TakC (G : Gm) (tab : Nat → Option Bool) (c : Value) : Prop := ∀ k b, tab k = some b → PySem.W.exmOne G.K (.ref (G.ca k)) c = some b
theorem w_try {tab : Nat → Option Bool} {c : Value} {i : Nat} {body suite : MS} (t : TakC G tab c) : ∀ D σ H, tS G Wx (mTry tab i body suite) D σ H → tS G (wAsT G.K c i (tS G (fun _ _ _ _ => False) suite) Wx D) body D σ H := fun D σ H ⟨μ, ρ, h, s, p⟩ => by
  refine ⟨μ, ρ, h, s, ?_⟩
  unfold mTry at p
  cases e : body ρ h with
  | none => rw [e] at p; exact p
  | some r =>
    rw [e] at p
    cases r with
    | nx ρ1 h1 => exact p
    | rt w h1 => exact p
    | bk ρ1 h1 => exact p
    | ct ρ1 h1 => exact p
    | ex k fs ρ1 h1 =>
      intro μ1 σ1 H1 cls d g1 s1 rx
      simp only at p
      cases et : tab k with
      | none => rw [et] at p; exact False.elim p
      | some b =>
        rw [et] at p
        obtain ⟨ecl, rx2⟩ := id rx
        refine ⟨b, by rw [ecl]; exact t k b et, fun hb a na => ?_, fun hb => ?_⟩
        · subst hb
          simp only at p
          have hn : RCell G (nu μ1 h1.length a) (h1.length + 1) (upd H1 a (ExV cls d a)) a (.exc k fs) := by
            refine ⟨cls, d, upd_same, ecl, ?_⟩
            rcases rx2 with q | ⟨dd, gs, e1, e2, q⟩
            · exact .inl q
            · exact .inr ⟨dd, gs, e1, by rw [upd_ne (ne_of_none e2 na)]; exact e2, RFs.mono (fun i hi => nu_old hi) (Nat.le_succ _) (TS0.fresh na) _ _ q⟩
          have g2 := Gr.new (o := ExV cls d a) (c := .exc k fs) s1.rel na hn
          have s2 := (s1.on g2).set (w := .ref h1.length) (v := .ref a) i (by simp only [RU]; exact ⟨by simp, by rw [nu_new]⟩)
          refine ⟨_, _, _, s2, ?_⟩
          have g12 := g1.trans g2
          cases e3 : suite (ρ1.set i (some (.ref h1.length))) (h1 ++ [.exc k fs]) with
          | none => rw [e3] at p; exact False.elim p
          | some r3 =>
            rw [e3] at p
            cases r3 with
            | nx ρ3 h3 => exact fun μ4 σ4 H4 g4 s4 => p μ4 _ H4 (g12.trans g4) (s4.unset i)
            | bk ρ3 h3 => exact fun μ4 σ4 H4 g4 s4 => p μ4 _ H4 (g12.trans g4) (s4.unset i)
            | ct ρ3 h3 => exact fun μ4 σ4 H4 g4 s4 => p μ4 _ H4 (g12.trans g4) (s4.unset i)
            | rt w h3 => exact fun μ4 H4 v g4 r4 => p μ4 H4 v (g12.trans g4) r4
            | ex k3 fs3 ρ3 h3 => exact False.elim p
        · subst hb
          exact p μ1 σ1 H1 cls d g1 s1 rx

/-! ### raise C(..): C an own error -/
/-- the fields by the arguments (the last stored first); new objects come behind -/
abbrev MX := List U → Hm → Option (List (Str × U) × Hm)
def mRaise (c : Nat) (mk : MX) (es : MA) : MS := fun ρ h => bndS ρ (es ρ h) fun ws h1 => match mk ws h1 with
  | some (fs, h2) => some (.ex c fs ρ h2)
  | none => none
/-- the cells of exceptions that stood before -/
def ExcOff (μ : Nat → Addr) (h : Hm) (a : Addr) : Prop := ∀ (i : Nat) c fs, h[i]? = some (.exc c fs) → μ i ≠ a
/-- the promise of such an __init__ -/
def spX (G : Gm) (c n : Nat) (mk : MX) : Sp := fun vs H Q E => ∃ a xs μ h ws fs h2, vs = .ref a :: xs ∧ xs.length = n ∧ H a = some (exo a (G.ca c) none) ∧ HRel G μ h H ∧ ExcOff μ h a ∧ RUs G.K μ h.length H ws xs ∧ mk ws h = some (fs, h2) ∧
  ∀ μ' H' d gs, Gr G μ h H μ' h2 H' → H' a = some (exo a (G.ca c) none) → ExcOff μ' h2 a → H' d = none → d ≠ a → (∀ b, H b ≠ none → H' b ≠ none) → RFs G.K μ' h2.length H' fs gs → Q .non (upd (upd H' d (exd d gs)) a (exo a (G.ca c) (some d)))
theorem exo_nt {e C : Addr} {d : Option Addr} : Wr (exo e C d) = false := rfl
theorem w_raise {c n : Nat} {mk : MX} {es : MA} (al : AL es n) (hn : n ≤ 1000) : ∀ D σ H, tS G Wx (mRaise c mk es) D σ H → (fun (_ : Ends) σ H => tMkO (G.ca c) (spX G c n mk) [] (tA G Wx es) σ H fun cls d H' => Wx cls d σ H') D σ H := fun D σ H ⟨μ, ρ, h, s, p⟩ =>
  ⟨μ, ρ, h, s, (PostS.bnd s p).withEq.mono fun μ1 h1 H1 ws g ⟨q, eq⟩ vs rs => by
    refine ⟨by rw [RUs.length rs, al _ _ _ _ eq]; exact hn, fun a na => ?_⟩
    cases em : mk ws h1 with
    | none => rw [em] at q; exact False.elim q
    | some fh =>
      obtain ⟨fs, h2⟩ := fh
      rw [em] at q
      simp only at q
      have r1 : HRel G μ1 h1 (upd H1 a (exo a (G.ca c) none)) := g.rel.fresh na
      have off : ExcOff μ1 h1 a := fun i k fs e z => by
        obtain ⟨cls, d, ea, _⟩ := g.rel.cell i _ e
        rw [z, na] at ea
        cases ea
      rw [List.append_nil]
      refine ⟨a, vs, μ1, h1, ws, fs, h2, rfl, (RUs.length rs).trans (al _ _ _ _ eq), upd_same, r1, off, rs.same (TS0.fresh na), em, fun μ' H' d gs g' ha off' nd da kk rf => ?_⟩
      have hd1 : H1 d = none := by
        cases z : H1 d with
        | none => rfl
        | some o => exact absurd nd (kk d (by rw [upd_ne da, z]; simp))
      refine ⟨rfl, d, gs, upd_same, by rw [upd_ne da, upd_same], hd1, ?_⟩
      -- the heap behind it
      have e3 : upd (del (upd (upd H' d (exd d gs)) a (exo a (G.ca c) (some d))) a) d (.xd gs) = upd (del H' a) d (.xd gs) := by
        funext b
        by_cases hb : b = d
        · subst hb; rw [upd_same, upd_same]
        · rw [upd_ne hb, upd_ne hb]
          by_cases hb2 : b = a
          · subst hb2; rw [del_same, del_same]
          · rw [del_ne hb2, del_ne hb2, upd_ne hb2, upd_ne hb]
      rw [e3]
      have kp : ∀ b u, b ≠ a → H' b = some u → upd (del H' a) d (.xd gs) b = some u := fun b u hb z => by
        rw [upd_ne (ne_of_none z nd), del_ne hb]
        exact z
      have nex : ∀ b u, H' b = some u → (∀ φ, u ≠ .ext φ) → b ≠ a := fun b u z y q => by
        rw [q, ha] at z
        cases z
        exact y _ rfl
      have ts : TS0 G.K H' (upd (del H' a) d (.xd gs)) := fun b xs st => by
        rcases st with (st | ⟨o, st⟩) | st
        · exact .inl (.inl (kp b _ (nex b _ st fun φ => by simp) st))
        · exact .inl (.inr ⟨o, kp b _ (nex b _ st fun φ => by simp) st⟩)
        · exact .inr st
      have rel3 : HRel G μ' h2 (upd (del H' a) d (.xd gs)) := by
        refine ⟨fun i e z => ?_, g'.rel.inj⟩
        have rc := g'.rel.cell i e z
        cases e with
        | lst us => obtain ⟨xs, q1, q2⟩ := rc; exact ⟨xs, kp _ _ (nex _ _ q1 fun φ => by simp) q1, q2.same ts⟩
        | ins k us => obtain ⟨dx, xs, q1, q2⟩ := rc; exact ⟨dx, xs, kp _ _ (nex _ _ q1 fun φ => by simp) q1, RFs.mono (fun _ _ => rfl) (Nat.le_refl _) ts _ _ q2⟩
        | frz us =>
          obtain ⟨xs, q1, q2⟩ := rc
          refine ⟨xs, ?_, q2.same ts⟩
          rcases q1 with ⟨o, q1⟩ | q1
          · exact .inl ⟨o, kp _ _ (nex _ _ q1 fun φ => by simp) q1⟩
          · exact .inr q1
        | exc k us =>
          obtain ⟨cls, dd, q1, q2, q3⟩ := rc
          refine ⟨cls, dd, kp _ _ (off' i k us z) q1, q2, ?_⟩
          rcases q3 with q3 | ⟨d1, ys, y1, y2, y3⟩
          · exact .inl q3
          · exact .inr ⟨d1, ys, y1, kp _ _ (nex _ _ y2 fun φ => by simp) y2, RFs.mono (fun _ _ => rfl) (Nat.le_refl _) ts _ _ y3⟩
      have ts1 : TS0 G.K H1 (upd (del H' a) d (.xd gs)) := (TS0.fresh (o := exo a (G.ca c) none) na).trans (g'.tup.trans ts)
      have gg : Gr G μ1 h1 H1 μ' h2 (upd (del H' a) d (.xd gs)) := ⟨g'.len, g'.mu, ts1, rel3⟩
      exact q μ' σ _ _ _ gg ((s.on g).on gg) ⟨rfl, .inr ⟨d, gs, rfl, upd_same, RFs.mono (fun _ _ => rfl) (Nat.le_refl _) ts _ _ rf⟩⟩⟩
end
end ML

set_option maxHeartbeats 4000000
namespace ML
open PySem L2
/-! ### __init__ of the own errors: super().__init__(text); self.f = p -/
section
variable {X : Cx} {x : Str} {pos : Pos} {i : Nat}
theorem pvS (hN : X.N[i]? = some x) (hv : X.env.scope.names.lookup x = some .local) (hd : (x == ("__debug__" : Str)) = false) (hcd : (x == ("__classdict__" : Str)) = false) : PE X (.Name x pos) (tVar i) := pe_var hN (.inl hv) hd hcd
end
def mk1 (f : Str) : MX := fun ws h => match ws with
  | [w] => some ([(f, w)], h)
  | _ => none
def mk2 (f1 f2 : Str) : MX := fun ws h => match ws with
  | [w, u] => some ([(f2, u), (f1, w)], h)
  | _ => none
/-- the first argument is written into the message -/
def mk2s (f1 f2 : Str) : MX := fun ws h => match ws with
  | [.str s, u] => if s.length ≤ LIM then some ([(f2, u), (f1, .str s)], h) else none
  | _ => none
/-- the second argument is written into the message -/
def mk2t (f1 f2 : Str) : MX := fun ws h => match ws with
  | [w, .str s] => if s.length ≤ LIM then some ([(f2, .str s), (f1, w)], h) else none
  | _ => none
theorem rf1 {K : PySem.W.Frag} {μ : Nat → Addr} {n : Nat} {H : Hp} {f : Str} {w : U} {v : V} (r : RU K μ n H w v) : RFs K μ n H [(f, w)] [(f, v)] := by
  simp only [RFs]
  exact ⟨v, [], rfl, r, rfl⟩
theorem rf2 {K : PySem.W.Frag} {μ : Nat → Addr} {n : Nat} {H : Hp} {f g : Str} {w u : U} {v y : V} (r : RU K μ n H w v) (q : RU K μ n H u y) : RFs K μ n H [(f, w), (g, u)] [(f, v), (g, y)] := by
  simp only [RFs]
  exact ⟨v, _, rfl, r, y, [], rfl, q, rfl⟩
theorem heap2 {H : Hp} {a d C : Addr} {o1 o2 : HO} (hd : d ≠ a) : upd (upd (upd H d o1) a (exo a C (some d))) d o2 = upd (upd H d o2) a (exo a C (some d)) := by
  funext b
  by_cases hb : b = d
  · subst hb
    rw [upd_same, upd_ne hd, upd_same]
  · rw [upd_ne hb]
    by_cases hb2 : b = a
    · subst hb2; rw [upd_same, upd_same]
    · rw [upd_ne hb2, upd_ne hb2, upd_ne hb, upd_ne hb]
theorem HRel.freshx {G : Gm} {μ : Nat → Addr} {h : Hm} {H : Hp} (r : HRel G μ h H) : Gr G μ h H μ h H := Gr.refl r

section
variable {G : Gm} {CX : CXT} {P : Program} {w : World} {mg : Str → Option Value} {base : Heap} {k : Nat} {f cc cda : Addr} {c : Nat} {name qual : Str} {params : Arguments} {e : Expr} {p0 p1 p2 p3 p4 q1 q2 q3 q4 q5 q6 q7 q8 : Pos} {scope : Scope} {dV kV doc pm ct oc : Value} {an od : Option Addr}
    {osl : Array (Option Value)} {ps : List Str}
/-- the message: a text -/
def Msg (X : Cx) (ps : List Str) (e : Expr) (ok : List U → Prop) (G : Gm) : Prop := ∀ μ h H ws vs, HRel G μ h H → RUs G.K μ h.length H ws vs → ok ws → ∀ a : V, ∃ te, PE X e te ∧ ∀ Q : VK, (∀ m, Q (.str m) H) → te (L2.start ps (a :: vs)) H Q

variable {pn : Str} {fn : Str}
theorem init_one (lk : G.K.lookup f = some ⟨oc, od, .func (PySem.W.ksFn name qual params [.Expr (.Call (.Attribute (.Call (.Name "super" p0) [] [] p1) "__init__" p2) [e] [] p3) p4, .Assign [.Attribute (.Name "self" q1) fn q2] (.Name pn q3) q4] scope dV kV doc pm an (.ref cda) ct cc), osl⟩)
    (T : SupTxt G.K mg (G.ca c) f cc cda qual) (S : SupScope ["self", pn] ["self", pn] scope) (hfile : ((P.main.file : Str) == ("/claim/cut.py" : Str)) = true) (htop : (P.main.scope.names.lookup ("super" : Str)).isSome = false)
    (har : ∃ ar : Arg, (params.posonlyargs ++ params.args).head? = some ar ∧ ([("self" : Str), pn]).head? = some ar.arg)
    (hswap : ∀ env : Env, swapsWith (.Call (.Attribute (.Call (.Name "super" p0) [] [] p1) "__init__" p2) [e] [] p3) none p4.line env = pure false)
    (hmeth : ∀ env : Env, eval (.Call (.Attribute (.Call (.Name "super" p0) [] [] p1) "__init__" p2) [e] [] p3) env = (do
      let ov ← attributeBase (.Call (.Name "super" p0) [] [] p1) "__init__" env (eval (.Call (.Name "super" p0) [] [] p1) env)
      standAt p2.atName
      let (f, first) ← holding [ov] (getMethod ov "__init__" (pure false))
      callWith p3 f first (backTo p3 (starEach [e] env)) []))
    (hstar : ∀ env : Env, starEach [e] env = (false, eval e env) :: starEach [] env)
    (hpn : (pn == ("__debug__" : Str)) = false ∧ (pn == ("__classdict__" : Str)) = false) (hfn : PySem.W.findIn G.K (.ref (G.ca c)) fn = some none) {ok : List U → Prop} {mk : MX} (hmk : ∀ ws h r, mk ws h = some r → ok ws ∧ mk1 fn ws h = some r)
    (msg : ∀ A outer s H E, Msg (cxS CX P w G.K mg base ["self", pn] qual scope f (.ref cda) cc A outer s H E) ["self", pn] e ok G) :
    FnOk P w G.K mg base CX (k + 1) f (PySem.W.ksFn name qual params [.Expr (.Call (.Attribute (.Call (.Name "super" p0) [] [] p1) "__init__" p2) [e] [] p3) p4, .Assign [.Attribute (.Name "self" q1) fn q2] (.Name pn q3) q4] scope dV kV doc pm an (.ref cda) ct cc) ["self", pn] (spX G c 1 mk) := by
  refine fnS_of lk T S hfile htop har (fun vs H Q E z => ?_) hswap hmeth hstar fun A outer s H vs Q E hr hsp => ?_
  · obtain ⟨a, xs, μ, h, ws, fs, h2, rfl, hl, _⟩ := z
    simp [hl]
  · obtain ⟨a, xs, μ, h, ws, fs, h2, rfl, hl, ha, rel, off, rs, em, q⟩ := hsp
    obtain ⟨hok, em⟩ := hmk _ _ _ em
    obtain ⟨te, hpe, hte⟩ := msg A outer s H E μ h H ws xs rel rs hok (.ref a)
    unfold mk1 at em
    split at em
    · rename_i w0
      cases em
      obtain ⟨v0, rfl, rv⟩ := rus1 rs
      refine ⟨a, te, _, rfl, ha, hpe, pss_one (ps_ost (pvS (i := 0) rfl (S.par _ (by simp)) (by decide) (by decide)) (pvS (i := 1) rfl (S.par _ (by simp)) hpn.1 hpn.2) (by rfl)), hte _ fun m => ⟨ha, ?_⟩⟩
      refine ⟨v0, rfl, .ref a, rfl, a, G.ca c, rfl, T.ox, hfn, .inl ⟨ha, fun dx nd da => ?_⟩⟩
      exact q μ H dx [(fn, v0)] (Gr.refl rel) ha off nd da (fun b z => z) (rf1 rv)
    · cases em
variable {pn2 fn2 : Str}
theorem init_two (lk : G.K.lookup f = some ⟨oc, od, .func (PySem.W.ksFn name qual params [.Expr (.Call (.Attribute (.Call (.Name "super" p0) [] [] p1) "__init__" p2) [e] [] p3) p4, .Assign [.Attribute (.Name "self" q1) fn q2] (.Name pn q3) q4, .Assign [.Attribute (.Name "self" q5) fn2 q6] (.Name pn2 q7) q8] scope dV kV doc pm an (.ref cda) ct cc), osl⟩)
    (T : SupTxt G.K mg (G.ca c) f cc cda qual) (S : SupScope ["self", pn, pn2] ["self", pn, pn2] scope) (hfile : ((P.main.file : Str) == ("/claim/cut.py" : Str)) = true) (htop : (P.main.scope.names.lookup ("super" : Str)).isSome = false)
    (har : ∃ ar : Arg, (params.posonlyargs ++ params.args).head? = some ar ∧ ([("self" : Str), pn, pn2]).head? = some ar.arg)
    (hswap : ∀ env : Env, swapsWith (.Call (.Attribute (.Call (.Name "super" p0) [] [] p1) "__init__" p2) [e] [] p3) none p4.line env = pure false)
    (hmeth : ∀ env : Env, eval (.Call (.Attribute (.Call (.Name "super" p0) [] [] p1) "__init__" p2) [e] [] p3) env = (do
      let ov ← attributeBase (.Call (.Name "super" p0) [] [] p1) "__init__" env (eval (.Call (.Name "super" p0) [] [] p1) env)
      standAt p2.atName
      let (f, first) ← holding [ov] (getMethod ov "__init__" (pure false))
      callWith p3 f first (backTo p3 (starEach [e] env)) []))
    (hstar : ∀ env : Env, starEach [e] env = (false, eval e env) :: starEach [] env)
    (hpn : (pn == ("__debug__" : Str)) = false ∧ (pn == ("__classdict__" : Str)) = false) (hpn2 : (pn2 == ("__debug__" : Str)) = false ∧ (pn2 == ("__classdict__" : Str)) = false)
    (hfn : PySem.W.findIn G.K (.ref (G.ca c)) fn = some none) (hfn2 : PySem.W.findIn G.K (.ref (G.ca c)) fn2 = some none) {ok : List U → Prop} {mk : MX} (hmk : ∀ ws h r, mk ws h = some r → ok ws ∧ mk2 fn fn2 ws h = some r)
    (msg : ∀ A outer s H E, Msg (cxS CX P w G.K mg base ["self", pn, pn2] qual scope f (.ref cda) cc A outer s H E) ["self", pn, pn2] e ok G) :
    FnOk P w G.K mg base CX (k + 1) f (PySem.W.ksFn name qual params [.Expr (.Call (.Attribute (.Call (.Name "super" p0) [] [] p1) "__init__" p2) [e] [] p3) p4, .Assign [.Attribute (.Name "self" q1) fn q2] (.Name pn q3) q4, .Assign [.Attribute (.Name "self" q5) fn2 q6] (.Name pn2 q7) q8] scope dV kV doc pm an (.ref cda) ct cc) ["self", pn, pn2] (spX G c 2 mk) := by
  refine fnS_of lk T S hfile htop har (fun vs H Q E z => ?_) hswap hmeth hstar fun A outer s H vs Q E hr hsp => ?_
  · obtain ⟨a, xs, μ, h, ws, fs, h2, rfl, hl, _⟩ := z
    simp [hl]
  · obtain ⟨a, xs, μ, h, ws, fs, h2, rfl, hl, ha, rel, off, rs, em, q⟩ := hsp
    obtain ⟨hok, em⟩ := hmk _ _ _ em
    obtain ⟨te, hpe, hte⟩ := msg A outer s H E μ h H ws xs rel rs hok (.ref a)
    unfold mk2 at em
    split at em
    · rename_i w0 w1
      cases em
      obtain ⟨v0, v1, rfl, rv, rv1⟩ := rus2 rs
      refine ⟨a, te, _, rfl, ha, hpe, pss_cons (ps_ost (pvS (i := 0) rfl (S.par _ (by simp)) (by decide) (by decide)) (pvS (i := 1) rfl (S.par _ (by simp)) hpn.1 hpn.2) (by rfl))
        (pss_one (ps_ost (pvS (i := 0) rfl (S.par _ (by simp)) (by decide) (by decide)) (pvS (i := 2) rfl (S.par _ (by simp)) hpn2.1 hpn2.2) (by rfl))), hte _ fun m => ⟨ha, ?_⟩⟩
      refine ⟨v0, rfl, .ref a, rfl, a, G.ca c, rfl, T.ox, hfn, .inl ⟨ha, fun dx nd da => ?_⟩⟩
      refine ⟨v1, rfl, .ref a, rfl, a, G.ca c, rfl, T.ox, hfn2, .inr ⟨dx, [(fn, v0)], upd_same, by rw [upd_ne da, upd_same], by simp, ?_⟩⟩
      show Q .non (upd (upd (upd H dx (exd dx [(fn, v0)])) a (exo a (G.ca c) (some dx))) dx (exd dx [(fn2, v1), (fn, v0)]))
      rw [heap2 da]
      exact q μ H dx [(fn2, v1), (fn, v0)] (Gr.refl rel) ha off nd da (fun b z => z) (rf2 rv1 rv)
    · cases em
/-- a written message -/
theorem msg_const {X : Cx} {m : Str} {j : Nat} {p : Pos} : Msg X ps (.Constant (.str m) j p) (fun _ => True) G := fun μ h H ws vs _ _ _ a => ⟨_, pe_str, fun Q q => q m⟩
/-- f'text{p}', p the i-th parameter -/
theorem msg_f {X : Cx} {m : Str} {j i : Nat} {p p' p'' p3 : Pos} {x : Str} (hN : X.N[i + 1]? = some x) (hv : X.env.scope.names.lookup x = some .local) (hd : (x == ("__debug__" : Str)) = false) (hcd : (x == ("__classdict__" : Str)) = false) (hm : m.length ≤ 1000) :
    Msg X ps (.JoinedStr [.Constant (.str m) j p, .FormattedValue (.Name x p') (-1) none p''] p3) (fun ws => ∃ s, ws[i]? = some (.str s) ∧ s.length ≤ LIM) G := fun μ h H ws vs rel rs ok a => by
  obtain ⟨s, es, hs⟩ := ok
  obtain ⟨v, ev, rv⟩ := RUs.get rs es
  simp only [RU] at rv
  subst rv
  refine ⟨_, pe_joined (.cons pe_str (.cons (pe_fmt (pvS hN hv hd hcd)) .nil)), fun Q q => ?_⟩
  have hl : i < vs.length := (List.getElem?_eq_some_iff.mp ev).1
  refine ⟨m, rfl, by rw [Str.length_append]; show 0 + m.length ≤ sizeLine; exact Nat.le_trans (by omega) (show 1000 ≤ sizeLine by decide), .str s, ?_, .inl ⟨s, rfl, lim_le hs, s, rfl, ?_, q _⟩⟩
  · unfold L2.start
    rw [List.map_cons, List.cons_append, List.getElem?_cons_succ, List.getElem?_append_left (by simpa using hl), List.getElem?_map, ev]
    rfl
  · rw [Str.length_append, Str.length_append]
    show 0 + m.length + s.length ≤ sizeLine
    have : s.length ≤ 1000000 := hs
    exact Nat.le_trans (by omega) (show 1001000 ≤ sizeLine by decide)
end
end ML

set_option maxHeartbeats 4000000
namespace ML
open PySem L2
section
variable {G : Gm} {Wx : WX} {μ μ' : Nat → Addr} {h h' : Hm} {H H' : Hp} {ρ : Ev} {σ : L2.St}
abbrev W0 : WX := fun _ _ _ _ => False
/-- what raises has no value -/
def noEx {α : Type} : Option (Rz α) → Option (Rz α)
  | some (.ok a h) => some (.ok a h)
  | _ => none
theorem Post.noEx {α : Type} {P : (Nat → Addr) → Hm → Hp → α → Prop} {E E' : XK} {x : Option (Rz α)} (p : Post G P E μ h H (noEx x)) : Post G P E' μ h H x := by
  cases x with
  | none => exact p
  | some r =>
    cases r with
    | ok a h1 => exact p
    | ex c fs h1 => exact False.elim p
def wipeE (ρ : Ev) : List Nat → Ev
  | [] => ρ
  | v :: vs => (wipeE ρ vs).set v none
theorem StOk.wipe (s : StOk G μ ρ h σ H) : ∀ vs : List Nat, StOk G μ (wipeE ρ vs) h (L2.wipe σ vs) H
  | [] => s
  | v :: vs => (StOk.wipe s vs).unset v
theorem set_comm {α : Type} (l : List α) (i j : Nat) (a b : α) (hij : i ≠ j) : (l.set i a).set j b = (l.set j b).set i a := by
  rw [List.set_comm _ _ hij]
theorem wipe_set {σ : L2.St} {i : Nat} {x : V} : ∀ {vs : List Nat}, i ∈ vs → L2.wipe (σ.set i (some x)) vs = L2.wipe σ vs := by
  intro vs
  induction vs generalizing σ with
  | nil => intro h; cases h
  | cons v vs ih =>
    intro hm
    unfold L2.wipe
    by_cases hv : i ∈ vs
    · rw [ih hv]
    · have e : i = v := by
        rcases List.mem_cons.mp hm with e | e
        · exact e
        · exact absurd e hv
      subst e
      have : ∀ (ws : List Nat), i ∉ ws → L2.wipe (σ.set i (some x)) ws = (L2.wipe σ ws).set i (some x) := by
        intro ws
        induction ws with
        | nil => intro _; rfl
        | cons u us ih2 =>
          intro hu
          simp only [List.mem_cons, not_or] at hu
          unfold L2.wipe
          rw [ih2 hu.2, List.set_comm _ _ hu.1]
      rw [this vs hv, List.set_set]
theorem wipe_wipe {σ : L2.St} (vs : List Nat) : L2.wipe (L2.wipe σ vs) vs = L2.wipe σ vs := by
  have key : ∀ (ws : List Nat) (τ : L2.St), (∀ v ∈ ws, v < τ.length → τ[v]? = some none) → L2.wipe τ ws = τ := by
    intro ws
    induction ws with
    | nil => intro τ _; rfl
    | cons u us ih =>
      intro τ h
      unfold L2.wipe
      rw [ih τ fun v hv => h v (List.mem_cons_of_mem _ hv)]
      by_cases hu : u < τ.length
      · have := h u List.mem_cons_self hu
        apply List.ext_getElem?
        intro j
        by_cases hj : u = j
        · subst hj; rw [List.getElem?_set_self hu, this]
        · rw [List.getElem?_set_ne hj]
      · rw [List.set_eq_of_length_le (by omega)]
  have none_at : ∀ (ws : List Nat) (τ : L2.St) v, v ∈ ws → v < (L2.wipe τ ws).length → (L2.wipe τ ws)[v]? = some none := by
    intro ws
    induction ws with
    | nil => intro τ v h; cases h
    | cons u us ih =>
      intro τ v hv hl
      unfold L2.wipe at hl ⊢
      rw [List.length_set] at hl
      by_cases hj : u = v
      · subst hj; rw [List.getElem?_set_self hl]
      · rw [List.getElem?_set_ne hj]
        rcases List.mem_cons.mp hv with e | e
        · exact absurd e.symm hj
        · exact ih τ v e hl
  exact key vs _ fun v hv hl => none_at vs σ v hv hl
/-- a target of plain names -/
inductive NT where
  | one (i : Nat)
  | tup (is : List Nat)
def setAll : List Nat → List U → Ev → Option Ev
  | [], [], ρ => some ρ
  | i :: is, w :: ws, ρ => setAll is ws (ρ.set i (some w))
  | _, _, _ => none
def NT.set : NT → U → Ev → Option Ev
  | .one i, w, ρ => some (ρ.set i (some w))
  | .tup is, .tup ws, ρ => setAll is ws ρ
  | _, _, _ => none
def gNm : List Nat → TGs
  | [] => gNil
  | i :: is => gCons (gName i) (gNm is)
def NT.tg (K : PySem.W.Frag) : NT → TG
  | .one i => gName i
  | .tup is => gTup K is.length (gNm is)
def NT.vs : NT → List Nat
  | .one i => [i]
  | .tup is => is
theorem setAll_ok : ∀ (is : List Nat) {ws : List U} {xs : List V} {ρ ρ1 : Ev} {τ : L2.St} {vs : List Nat} {F : L2.St → Hp → Prop}, setAll is ws ρ = some ρ1 → RUs G.K μ h.length H ws xs → StOk G μ ρ h τ H → (∀ i ∈ is, i ∈ vs) →
    (∀ τ1, StOk G μ ρ1 h τ1 H → L2.wipe τ1 vs = L2.wipe τ vs → F τ1 H) → gNm is xs τ H F
  | [], ws, xs, ρ, ρ1, τ, vs, F, e, r, s, hv, k => by
    cases ws with
    | nil =>
      cases e
      simp only [RUs] at r
      subst r
      exact ⟨rfl, k τ s rfl⟩
    | cons _ _ => cases e
  | i :: is, ws, xs, ρ, ρ1, τ, vs, F, e, r, s, hv, k => by
    cases ws with
    | nil => cases e
    | cons w ws =>
      simp only [RUs] at r
      obtain ⟨y, ys, rfl, r1, rs⟩ := r
      refine ⟨y, ys, rfl, ?_⟩
      show gNm is ys (τ.set i (some y)) H F
      refine setAll_ok is e rs (s.set i r1) (fun j hj => hv j (List.mem_cons_of_mem _ hj)) fun τ1 s1 e1 => k τ1 s1 (by rw [e1, wipe_set (hv i List.mem_cons_self)])
theorem NT.ok {t : NT} {w : U} {x : V} {ρ ρ1 : Ev} {τ : L2.St} {vs : List Nat} {F : L2.St → Hp → Prop} (e : t.set w ρ = some ρ1) (r : RU G.K μ h.length H w x) (s : StOk G μ ρ h τ H) (hv : ∀ i ∈ t.vs, i ∈ vs)
    (k : ∀ τ1, StOk G μ ρ1 h τ1 H → L2.wipe τ1 vs = L2.wipe τ vs → F τ1 H) : t.tg G.K x τ H F := by
  cases t with
  | one i =>
    cases e
    exact k _ (s.set i r) (wipe_set (hv i (by simp [NT.vs])))
  | tup is =>
    cases w <;> first | (cases e; done) | skip
    rename_i ws
    simp only [RU] at r
    obtain ⟨a, xs, rfl, st, rs⟩ := r
    have hl : xs.length = is.length := by
      have : ∀ (is : List Nat) (ws : List U) (ρ : Ev) ρ1, setAll is ws ρ = some ρ1 → ws.length = is.length := by
        intro is
        induction is with
        | nil => intro ws ρ ρ1 e; cases ws <;> first | rfl | cases e
        | cons i is ih => intro ws ρ ρ1 e; cases ws with
          | nil => cases e
          | cons w ws => simp [ih ws _ _ e]
      rw [RUs.length rs]
      exact this is ws ρ ρ1 e
    exact ⟨a, xs, rfl, st, hl, setAll_ok is e rs s hv k⟩

open Classical in
noncomputable def lcGo (chk : Hm → Prop) (t : NT) (tt : MT) (te : ME) (ρ : Ev) (D : Nat) : List U → Hm → Option (Rz U)
  | [], h => if chk h then some (.ok (.ref D) h) else none
  | w :: ws, h => if chk h then match t.set w ρ with
    | none => none
    | some ρ1 => bnd (noEx (tt ρ1 h)) fun b h2 => if b = true then bnd (noEx (te ρ1 h2)) fun y h3 => match h3[D]? with
        | some (.lst acc) => if acc.length < LIM then lcGo chk t tt te ρ D ws (h3.set D (.lst (acc ++ [y]))) else none
        | _ => none
      else lcGo chk t tt te ρ D ws h2
    else none
noncomputable def mLc (it : MI) (t : NT) (tt : MT) (te : ME) (vs : List Nat) : ME := fun ρ h => bnd (it ρ h) fun a h1 => lcGo a.2 t tt te (wipeE ρ vs) h1.length a.1 (h1 ++ [.lst []])
theorem w_lc {it : MI} {t : NT} {tt : MT} {te : ME} {vs : List Nat} (hv : ∀ i ∈ t.vs, i ∈ vs) : ∀ σ H Q, tE G Wx (mLc it t tt te vs) σ H Q → tLc (tI G Wx it) (t.tg G.K) (tT G W0 tt) (tE G W0 te) vs σ H Q := fun σ H Q ⟨μ, ρ, h, s, p⟩ =>
  ⟨μ, ρ, h, s, (Post.bnd p).mono fun μ1 h1 H1 a g1 q J gv D nD => by
    have gD := Gr.new (o := .lst []) (c := .lst []) g1.rel nD ⟨[], upd_same, RUs.nil⟩
    have sW := ((s.on g1).wipe vs)
    have hlD : h1.length < (h1 ++ [Cell.lst []]).length := by simp
    refine ⟨fun i m H => m = a.1.length - i ∧ i ≤ a.1.length ∧ ∃ μ2 h2, Gr G (nu μ1 h1.length D) (h1 ++ [.lst []]) (upd H1 D (.lst [])) μ2 h2 H ∧ Post G (PV G Q) (fun cls d H' => Wx cls d σ H') μ2 h2 H (lcGo a.2 t tt te (wipeE ρ vs) h1.length (a.1.drop i) h2),
      ⟨a.1.length, by simp, Nat.zero_le _, _, _, Gr.refl gD.rel, by rw [List.drop_zero]; exact q.on gD⟩, ?_⟩
    rintro i m H2 ⟨rfl, hi, μ2, h2, g2, p2⟩
    have g12 := gD.trans g2
    have em : μ2 h1.length = D := by rw [g2.mu _ hlD, nu_new]
    by_cases hlt : i < a.1.length
    · have hd : a.1.drop i = a.1[i] :: a.1.drop (i + 1) := List.drop_eq_getElem_cons hlt
      rw [hd] at p2
      unfold lcGo at p2
      by_cases hc : a.2 h2
      · rw [if_pos hc] at p2
        obtain ⟨_, gi⟩ := gv i μ2 h2 H2 g12 hc
        obtain ⟨go, yl⟩ := gi a.1[i] (by simp [hlt])
        cases e1 : t.set a.1[i] (wipeE ρ vs) with
        | none => rw [e1] at p2; exact False.elim p2
        | some ρ1 =>
          rw [e1] at p2
          simp only at p2
          refine .inr ⟨go, fun H' => ∃ μ2 h2, Gr G (nu μ1 h1.length D) (h1 ++ [.lst []]) (upd H1 D (.lst [])) μ2 h2 H' ∧ Post G (PV G Q) (fun cls d H' => Wx cls d σ H') μ2 h2 H' (lcGo a.2 t tt te (wipeE ρ vs) h1.length (a.1.drop (i + 1)) h2), fun H' z => ⟨a.1.length - (i + 1), by omega, rfl, by omega, z⟩, fun x H' y => ?_⟩
          obtain ⟨g3, r3⟩ := yl x H' y
          have s3 : StOk G μ2 (wipeE ρ vs) h2 (L2.wipe σ vs) H' := (sW.on g12).on g3
          refine NT.ok e1 r3 s3 hv fun τ1 s1 ew => ⟨by rw [ew, wipe_wipe], ?_⟩
          have p3 := (Post.bnd (p2.on g3)).noEx (E' := fun cls d H' => W0 cls d τ1 H')
          refine ⟨μ2, ρ1, h2, s1, p3.mono fun μ4 h4 H4 b g4 q4 => ?_⟩
          cases b with
          | false =>
            rw [if_neg Bool.false_ne_true] at q4 ⊢
            exact ⟨μ4, h4, (g2.trans g3).trans g4, q4⟩
          | true =>
            rw [if_pos rfl] at q4 ⊢
            refine ⟨μ4, ρ1, h4, s1.on g4, ((Post.bnd q4).noEx).mono fun μ5 h5 H5 y g5 q5 v rv => ?_⟩
            have g25 := ((g2.trans g3).trans g4).trans g5
            have em5 : μ5 h1.length = D := by rw [g25.mu _ hlD, nu_new]
            split at q5
            · rename_i acc ec
              split at q5
              · rename_i hl
                obtain ⟨xs, sx, rx⟩ := g25.rel.cell _ _ ec
                rw [em5] at sx
                refine ⟨xs, sx, by rw [RUs.length rx]; exact Nat.lt_of_lt_of_le hl (lim_le (Nat.le_refl _)), ?_⟩
                have ts : TS0 G.K H5 (upd H5 D (.lst (xs ++ [v]))) := TS0.write sx rfl
                have gw := Gr.write (o := .lst (xs ++ [v])) (d := .lst (acc ++ [y])) g25.rel ec rfl rfl ⟨_, upd_same, (rx.append (RUs.cons rv RUs.nil)).same (by rw [em5]; exact ts)⟩
                rw [em5] at gw
                exact ⟨μ5, _, g25.trans gw, q5.on gw⟩
              · exact False.elim q5
            · exact False.elim q5
      · rw [if_neg hc] at p2
        exact False.elim p2
    · have e : i = a.1.length := by omega
      subst e
      rw [List.drop_length] at p2
      unfold lcGo at p2
      by_cases hc : a.2 h2
      · rw [if_pos hc] at p2
        refine .inl ⟨(gv _ μ2 h2 H2 g12 hc).1 (Nat.le_refl _), ?_⟩
        refine Post.ok g2.rel p2 _ ?_
        simp only [RU]
        exact ⟨Nat.lt_of_lt_of_le hlD g2.len, by rw [em]⟩
      · rw [if_neg hc] at p2
        exact False.elim p2⟩
/-- y = [..] -/
theorem w_setLc {it : MI} {t : NT} {tt : MT} {te : ME} {vs : List Nat} {i : Nat} (hv : ∀ i ∈ t.vs, i ∈ vs) : ∀ D σ H, tS G Wx (mSet i (mLc it t tt te vs)) D σ H → tAsg (tLc (tI G Wx it) (t.tg G.K) (tT G W0 tt) (tE G W0 te) vs) (gName i) D σ H := fun D σ H z =>
  w_lc hv σ H _ (w_set D σ H z)
def mYes : MT := fun _ h => some (.ok true h)
theorem w_yes : ∀ σ H Q, tT G Wx mYes σ H Q → tYes σ H Q := fun σ H Q ⟨μ, ρ, h, s, p⟩ => Post.ok s.rel p
theorem _root_.L2.PTs.weak {X : Cx} {e : List Expr} {t t' : TT} (h : PTs X e t) (w : ∀ σ H Q, t' σ H Q → t σ H Q) : PTs X e t' := by
  obtain ⟨h⟩ := h
  exact ⟨fun pins s σ H Q I q => h pins s σ H Q I (w σ H Q q)⟩

/-! ### the signs of a text; enumerate; zip -/
def iS (e : ME) : MI := fun ρ h => bnd (e ρ h) fun w h1 => match w with
  | .str x => some (.ok (sItems x, fun _ => True) h1)
  | _ => none
theorem gives_str {x : Str} : Gives G (Its x) (sItems x) (fun _ => True) μ h H := fun j μ2 h2 H2 gr ck => by
  refine ⟨fun hj => by
    show x.cps.size ≤ j
    simpa [sItems] using hj, fun w hw => ?_⟩
  unfold sItems at hw
  rw [List.getElem?_map] at hw
  cases e : x.cps.toList[j]? with
  | none => rw [e] at hw; cases hw
  | some c =>
    rw [e] at hw
    cases hw
    have hj : j < x.cps.size := by
      have := (List.getElem?_eq_some_iff.mp e).1
      simpa using this
    refine ⟨hj, fun v H' y => ?_⟩
    obtain ⟨rfl, c', ec, rfl⟩ := y
    rw [← Array.getElem?_toList, e] at ec
    cases ec
    exact ⟨Gr.refl gr.rel, rfl⟩
theorem w_iS {e : ME} : ∀ σ H R, tI G Wx (iS e) σ H R → iStr (tE G Wx e) σ H R := fun σ H R ⟨μ, ρ, h, s, p⟩ =>
  ⟨μ, ρ, h, s, (Post.bnd p).mono fun μ1 h1 H1 w g q v r => by
    cases w with
    | str x =>
      simp only [RU] at r
      exact ⟨x, r, q μ1 H1 (Gr.refl g.rel) _ gives_str⟩
    | _ => exact False.elim q⟩
def eItems : Nat → List U → List U
  | _, [] => []
  | k, w :: ws => .tup [.int k, w] :: eItems (k + 1) ws
theorem eItems_get : ∀ {ws : List U} {k j : Nat}, (eItems k ws)[j]? = (ws[j]?).map fun w => .tup [.int ((k + j : Nat) : Int), w]
  | [], k, j => by simp [eItems]
  | w :: ws, k, 0 => by simp [eItems]
  | w :: ws, k, j + 1 => by
    simp only [eItems, List.getElem?_cons_succ]
    rw [eItems_get]
    congr 1
    funext w
    congr 3
    omega
theorem eItems_len : ∀ {ws : List U} {k : Nat}, (eItems k ws).length = ws.length
  | [], _ => rfl
  | w :: ws, k => by simp [eItems, eItems_len]
/-- enumerate(list) -/
def iEn (e : ME) : MI := fun ρ h => bnd (e ρ h) fun w h1 => match w with
  | .ref i => match h1[i]? with
    | some (.lst ws) => some (.ok (eItems 0 ws, fun h => h[i]? = some (.lst ws)) h1)
    | some (.frz ws) => some (.ok (eItems 0 ws, fun h => h[i]? = some (.frz ws)) h1)
    | _ => none
  | _ => none
end
end ML

set_option maxHeartbeats 4000000
/-! the rules as they are printed: the layer's rule, then its reading by a computation -/
namespace ML
open PySem L2
def visB (sc : Scope) (x : Str) : Bool := match sc.names.lookup x with
  | some .local => true
  | some .cell => true
  | some .free => true
  | _ => false
theorem visB_ok {sc : Scope} {x : Str} (h : visB sc x = true) : Vis sc x := by
  unfold visB at h
  split at h
  · rename_i e; exact .inl e
  · rename_i e; exact .inr (.inl e)
  · rename_i e; exact .inr (.inr e)
  · cases h
def locB (sc : Scope) (x : Str) : Bool := match sc.names.lookup x with
  | some .local => true
  | some .cell => true
  | _ => false
theorem locB_ok {sc : Scope} {x : Str} (h : locB sc x = true) : Loc sc x := by
  unfold locB at h
  split at h
  · rename_i e; exact .inl e
  · rename_i e; exact .inr e
  · cases h
section
variable {X : Cx} {G : Gm} {Wx : WX} {e a b c o : Expr} {es : List Expr} {st : Stmt} {rest sts : List Stmt} {x : Str} {pos p p' apos : Pos} {ma mb mc mo : ME} {mt mu : MT} {mas : MA} {ms mr : MS}
/-! names, constants -/
theorem dVar (i : Nat) (hN : X.N[i]? = some x) (hv : visB X.env.scope x = true) (hd : (x == ("__debug__" : Str)) = false) (hc : (x == ("__classdict__" : Str)) = false) : PE X (.Name x pos) (tE G Wx (mVar i)) := (pe_var hN (visB_ok hv) hd hc).weak w_var
theorem dInt {i : Int} {j : Nat} : PE X (.Constant (.int i) j pos) (tE G Wx (mC (.int i))) := pe_int.weak w_int
theorem dBl {i : Bool} {j : Nat} : PE X (.Constant (.bool i) j pos) (tE G Wx (mC (.bl i))) := pe_bl.weak w_bl
theorem dNon {j : Nat} : PE X (.Constant .none j pos) (tE G Wx (mC .non)) := pe_non.weak w_non
theorem dStr {i : Str} {j : Nat} : PE X (.Constant (.str i) j pos) (tE G Wx (mC (.str i))) := pe_str.weak w_str
/-- a module's constant -/
structure GlS (mg : Str → Option Value) (x : Str) (s : Str) : Prop where
  at_ : ∃ t, mg x = some (.str s t)
structure GlI (mg : Str → Option Value) (x : Str) (s : Int) : Prop where
  at_ : ∃ t, mg x = some (.int s t)
theorem dGlS {s : Str} (g : GlS X.mg x s) (hg : X.env.kindOf x = some .globalImplicit) (hd : (x == ("__debug__" : Str)) = false) : PE X (.Name x pos) (tE G Wx (mC (.str s))) := by
  obtain ⟨t, e⟩ := g.at_
  exact (pe_glob (v := .str s) hg e ⟨t, rfl⟩ hd).weak w_str
theorem dGlI {s : Int} (g : GlI X.mg x s) (hg : X.env.kindOf x = some .globalImplicit) (hd : (x == ("__debug__" : Str)) = false) : PE X (.Name x pos) (tE G Wx (mC (.int s))) := by
  obtain ⟨t, e⟩ := g.at_
  exact (pe_glob (v := .int s) hg e ⟨t, rfl⟩ hd).weak w_int
/-! operators -/
def oAdd : O2 := fun x y h => match (match oAddI x y h with | some z => some z | none => oAddS x y h) with
  | some z => some z
  | none => match oAddL x y h with | some z => some z | none => oAddT2 x y h
theorem dAdd (hG : X.K = G.K) (ha : PE X a (tE G Wx ma)) (hb : PE X b (tE G Wx mb)) : PE X (.BinOp a .Add b pos) (tE G Wx (mOp oAdd ma mb)) := by
  have r := (op_add (X := X)).or op_add_str
  have r2 := (op_cat (X := X)).or op_catA
  rw [hG] at r2
  exact (pe_op (r.or r2) ha hb).weak (w_op ((oAddI_ok.or oAddS_ok).or (oAddL_ok.or oAddT2_ok)))
theorem dSub (ha : PE X a (tE G Wx ma)) (hb : PE X b (tE G Wx mb)) : PE X (.BinOp a .Sub b pos) (tE G Wx (mOp oSub ma mb)) := (pe_op op_sub ha hb).weak (w_op oSub_ok)
def oMulA : O2 := fun x y h => match oMul x y h with | some z => some z | none => oRep x y h
theorem dMul (ha : PE X a (tE G Wx ma)) (hb : PE X b (tE G Wx mb)) : PE X (.BinOp a .Mult b pos) (tE G Wx (mOp oMulA ma mb)) := (pe_op ((op_mul (X := X)).or op_rep) ha hb).weak (w_op (oMul_ok.or oRep_ok))
theorem dDiv (ha : PE X a (tE G Wx ma)) (hb : PE X b (tE G Wx mb)) : PE X (.BinOp a .FloorDiv b pos) (tE G Wx (mOp oDiv ma mb)) := (pe_op op_fdivN ha hb).weak (w_op oDiv_ok)
theorem dMod (ha : PE X a (tE G Wx ma)) (hb : PE X b (tE G Wx mb)) : PE X (.BinOp a .Mod b pos) (tE G Wx (mOp oMod ma mb)) := (pe_op op_modN ha hb).weak (w_op oMod_ok)
theorem dPow (ha : PE X a (tE G Wx ma)) (hb : PE X b (tE G Wx mb)) : PE X (.BinOp a .Pow b pos) (tE G Wx (mOp oPow ma mb)) := (pe_op op_pow ha hb).weak (w_op oPow_ok)
theorem dNeg (ha : PE X a (tE G Wx ma)) : PE X (.UnaryOp .USub a pos) (tE G Wx (mNeg ma)) := (pe_un un_neg ha).weak w_neg
/-! comparisons: as values, as tests -/
theorem dLt (ha : PE X a (tE G Wx ma)) (hb : PE X b (tE G Wx mb)) : PE X (.Compare a [.Lt] [b] pos) (tE G Wx (mOp oLt ma mb)) := (pe_cmpR op_lt ha hb (nomark _)).weak (w_op oLt_ok)
theorem dLe (ha : PE X a (tE G Wx ma)) (hb : PE X b (tE G Wx mb)) : PE X (.Compare a [.LtE] [b] pos) (tE G Wx (mOp oLe ma mb)) := (pe_cmpR op_le ha hb (nomark _)).weak (w_op oLe_ok)
theorem dGt (ha : PE X a (tE G Wx ma)) (hb : PE X b (tE G Wx mb)) : PE X (.Compare a [.Gt] [b] pos) (tE G Wx (mOp oGt ma mb)) := (pe_cmpR op_gt ha hb (nomark _)).weak (w_op oGt_ok)
theorem dGe (ha : PE X a (tE G Wx ma)) (hb : PE X b (tE G Wx mb)) : PE X (.Compare a [.GtE] [b] pos) (tE G Wx (mOp oGe ma mb)) := (pe_cmpR op_ge ha hb (nomark _)).weak (w_op oGe_ok)
def oEq (n : Nat) : O2 := fun x y h => match oEqS false x y h with | some z => some z | none => oEqD false n x y h
def oNe (n : Nat) : O2 := fun x y h => match oEqS true x y h with | some z => some z | none => oEqD true n x y h
theorem dEq (n : Nat) (hG : X.K = G.K) (hu : X.A.units + 64 < cLine) (ha : PE X a (tE G Wx ma)) (hb : PE X b (tE G Wx mb)) : PE X (.Compare a [.Eq] [b] pos) (tE G Wx (mOp (oEq n) ma mb)) := by
  have r := (op_eq (X := X)).or (op_eqD hu)
  rw [hG] at r
  exact (pe_cmpR r ha hb (nomark _)).weak (w_op (oEqS_ok.or oEqD_ok))
theorem dNe (n : Nat) (hG : X.K = G.K) (hu : X.A.units + 64 < cLine) (ha : PE X a (tE G Wx ma)) (hb : PE X b (tE G Wx mb)) : PE X (.Compare a [.NotEq] [b] pos) (tE G Wx (mOp (oNe n) ma mb)) := by
  have r := (op_ne (X := X)).or (op_neD hu)
  rw [hG] at r
  exact (pe_cmpR r ha hb (nomark _)).weak (w_op (oNeS_ok.or oNeD_ok))
theorem dIsN {j : Nat} (ha : PE X a (tE G Wx ma)) : PE X (.Compare a [.Is] [.Constant .none j p] pos) (tE G Wx (mIsN false ma)) := (pe_cmp (pc_isN ha) rfl).weak w_isN
theorem dNotN {j : Nat} (ha : PE X a (tE G Wx ma)) : PE X (.Compare a [.IsNot] [.Constant .none j p] pos) (tE G Wx (mIsN true ma)) := (pe_cmp (pc_notN ha) rfl).weak w_notN
/-- x in text (one sign), x in a list or tuple -/
def oInA (neg : Bool) : O2 := fun x y h => match oInC neg x y h with | some z => some z | none => oIn neg x y h
theorem oNotInC_ok : OpC G (oInC true) (fun x y H Q => ∃ (c : Nat) (z : Str), x = .str ⟨#[c]⟩ ∧ y = .str z ∧ Q (.bl (!decide (c ∈ z.cps.toList))) H) := fun E μ h H wx wy x y Q rel rx ry p => by
  cases wx with
  | str a =>
    cases wy with
    | str z =>
      simp only [RU] at rx ry
      subst rx ry
      unfold oInC at p
      simp only at p
      split at p
      · rename_i c e
        refine ⟨c, z, by rw [str_one e], rfl, Post.ok rel p _ (by simp [RU])⟩
      · exact False.elim p
    | _ => exact False.elim p
  | _ => exact False.elim p
theorem dIn (hG : X.K = G.K) (ha : PE X a (tE G Wx ma)) (hb : PE X b (tE G Wx mb)) (hm : behindInMarks .In b = false) : PE X (.Compare a [.In] [b] pos) (tE G Wx (mOp (oInA false) ma mb)) := by
  have r := (op_in_sign (X := X)).or op_in_seq
  rw [hG] at r
  exact (pe_cmpR r ha hb hm).weak (w_op (oInC_ok.or oIn_ok))
theorem dNotIn (hG : X.K = G.K) (ha : PE X a (tE G Wx ma)) (hb : PE X b (tE G Wx mb)) (hm : behindInMarks .NotIn b = false) : PE X (.Compare a [.NotIn] [b] pos) (tE G Wx (mOp (oInA true) ma mb)) := by
  have r := (op_notIn_sign (X := X)).or op_notIn_seq
  rw [hG] at r
  exact (pe_cmpR r ha hb hm).weak (w_op (oNotInC_ok.or oIn_ok))
/-- a <= b <= c -/
theorem dLeLe (ha : PE X a (tE G Wx ma)) (hb : PE X b (tE G Wx mb)) (hc : PE X c (tE G Wx mc)) (hm : lastMarks [.LtE, .LtE] [b, c] = false) : PE X (.Compare a [.LtE, .LtE] [b, c] pos) (tE G Wx (mChain oLe oLe ma mb mc)) := (pe_chain op_le op_le ha hb hc hm).weak (w_chain oLe_ok oLe_ok)
theorem qLeLe (ha : PE X a (tE G Wx ma)) (hb : PE X b (tE G Wx mb)) (hc : PE X c (tE G Wx mc)) (hm : lastMarks [.LtE, .LtE] [b, c] = false) : PT X (.Compare a [.LtE, .LtE] [b, c] pos) (tT G Wx (mB (mChain oLe oLe ma mb mc))) := (pt_chain op_le op_le ha hb hc hm).weak (w_testchain oLe_ok oLe_ok)
/-- any comparison as a test -/
theorem qLt (ha : PE X a (tE G Wx ma)) (hb : PE X b (tE G Wx mb)) : PT X (.Compare a [.Lt] [b] pos) (tT G Wx (mB (mOp oLt ma mb))) := (pt_cmpR op_lt ha hb (nomark _)).weak (w_testop oLt_ok)
theorem qLe (ha : PE X a (tE G Wx ma)) (hb : PE X b (tE G Wx mb)) : PT X (.Compare a [.LtE] [b] pos) (tT G Wx (mB (mOp oLe ma mb))) := (pt_cmpR op_le ha hb (nomark _)).weak (w_testop oLe_ok)
theorem qGt (ha : PE X a (tE G Wx ma)) (hb : PE X b (tE G Wx mb)) : PT X (.Compare a [.Gt] [b] pos) (tT G Wx (mB (mOp oGt ma mb))) := (pt_cmpR op_gt ha hb (nomark _)).weak (w_testop oGt_ok)
theorem qGe (ha : PE X a (tE G Wx ma)) (hb : PE X b (tE G Wx mb)) : PT X (.Compare a [.GtE] [b] pos) (tT G Wx (mB (mOp oGe ma mb))) := (pt_cmpR op_ge ha hb (nomark _)).weak (w_testop oGe_ok)
theorem qEq (n : Nat) (hG : X.K = G.K) (hu : X.A.units + 64 < cLine) (ha : PE X a (tE G Wx ma)) (hb : PE X b (tE G Wx mb)) : PT X (.Compare a [.Eq] [b] pos) (tT G Wx (mB (mOp (oEq n) ma mb))) := by
  have r := (op_eq (X := X)).or (op_eqD hu)
  rw [hG] at r
  exact (pt_cmpR r ha hb (nomark _)).weak (w_testop (oEqS_ok.or oEqD_ok))
theorem qNe (n : Nat) (hG : X.K = G.K) (hu : X.A.units + 64 < cLine) (ha : PE X a (tE G Wx ma)) (hb : PE X b (tE G Wx mb)) : PT X (.Compare a [.NotEq] [b] pos) (tT G Wx (mB (mOp (oNe n) ma mb))) := by
  have r := (op_ne (X := X)).or (op_neD hu)
  rw [hG] at r
  exact (pt_cmpR r ha hb (nomark _)).weak (w_testop (oNeS_ok.or oNeD_ok))
theorem qIsN {j : Nat} (ha : PE X a (tE G Wx ma)) : PT X (.Compare a [.Is] [.Constant .none j p] pos) (tT G Wx (mB (mIsN false ma))) := (pt_cmp (pc_isN ha) rfl).weak w_testN
theorem qNotN {j : Nat} (ha : PE X a (tE G Wx ma)) : PT X (.Compare a [.IsNot] [.Constant .none j p] pos) (tT G Wx (mB (mIsN true ma))) := (pt_cmp (pc_notN ha) rfl).weak w_testNN
theorem qIn (hG : X.K = G.K) (ha : PE X a (tE G Wx ma)) (hb : PE X b (tE G Wx mb)) (hm : behindInMarks .In b = false) : PT X (.Compare a [.In] [b] pos) (tT G Wx (mB (mOp (oInA false) ma mb))) := by
  have r := (op_in_sign (X := X)).or op_in_seq
  rw [hG] at r
  exact (pt_cmpR r ha hb hm).weak (w_testop (oInC_ok.or oIn_ok))
theorem qNotIn (hG : X.K = G.K) (ha : PE X a (tE G Wx ma)) (hb : PE X b (tE G Wx mb)) (hm : behindInMarks .NotIn b = false) : PT X (.Compare a [.NotIn] [b] pos) (tT G Wx (mB (mOp (oInA true) ma mb))) := by
  have r := (op_notIn_sign (X := X)).or op_notIn_seq
  rw [hG] at r
  exact (pt_cmpR r ha hb hm).weak (w_testop (oNotInC_ok.or oIn_ok))
/-- a value that is a truth value, as a test -/
theorem qVal (h : PE X e (tE G Wx ma)) (he : ∀ whole, isTrue e X.env whole = (do let v ← whole; standAt e.pos; holding [v] (truthy v))) : PT X e (tT G Wx (mB ma)) := (pt_val h he).weak w_B
theorem qNot (h : PT X a (tT G Wx mt)) : PT X (.UnaryOp .Not a pos) (tT G Wx (mTNot mt)) := (pt_not h).weak w_tnot
theorem qAnd1 (h : PT X a (tT G Wx mt)) : PW X (.BoolOp .And [a] pos) (tT G Wx mt) := pw_and1 h
theorem qOr1 (h : PT X a (tT G Wx mt)) : PW X (.BoolOp .Or [a] pos) (tT G Wx mt) := pw_or1 h
theorem qAnd (h : PT X a (tT G Wx mt)) (k : PW X (.BoolOp .And (b :: es) pos) (tT G Wx mu)) : PW X (.BoolOp .And (a :: b :: es) pos) (tT G Wx (mTAnd mt mu)) := (pw_and h k).weak w_tand
theorem qOr (h : PT X a (tT G Wx mt)) (k : PW X (.BoolOp .Or (b :: es) pos) (tT G Wx mu)) : PW X (.BoolOp .Or (a :: b :: es) pos) (tT G Wx (mTOr mt mu)) := (pw_or h k).weak w_tor
theorem dAnd1 {op : BoolOp} (h : PE X a (tE G Wx ma)) : PE X (.BoolOp op [a] pos) (tE G Wx ma) := pe_one h
theorem dAnd (h : PE X a (tE G Wx ma)) (k : PE X (.BoolOp .And (b :: es) pos) (tE G Wx mb)) : PE X (.BoolOp .And (a :: b :: es) pos) (tE G Wx (mAnd ma mb)) := (pe_and h k).weak w_and
theorem dOr (h : PE X a (tE G Wx ma)) (k : PE X (.BoolOp .Or (b :: es) pos) (tE G Wx mb)) : PE X (.BoolOp .Or (a :: b :: es) pos) (tE G Wx (mOr ma mb)) := (pe_or h k).weak w_or
theorem dNot (h : PE X a (tE G Wx ma)) : PE X (.UnaryOp .Not a pos) (tE G Wx (mNot ma)) := (pe_not h).weak w_not
theorem dIfE (h : PT X c (tT G Wx mt)) (ha : PE X a (tE G Wx ma)) (hb : PE X b (tE G Wx mb)) : PE X (.IfExp c a b pos) (tE G Wx (mIfE mt ma mb)) := (pe_ifExp h ha hb).weak w_ifE
/-! displays, items, slices -/
theorem dNil : PA X [] (tA G Wx mNil) := pa_nil.weak w_nil
theorem dCons (h : PE X e (tE G Wx ma)) (k : PA X es (tA G Wx mas)) (hs : starEach (e :: es) X.env = (false, eval e X.env) :: starEach es X.env) : PA X (e :: es) (tA G Wx (mCons ma mas)) := (pa_cons h k hs).weak w_cons
theorem dTup {x1} (h : PA X es (tA G Wx mas)) : PE X (.Tuple es x1 pos) (tE G Wx (mTup mas)) := (pe_tup h).weak w_tup
theorem dLst (h : PA X es (tA G Wx mas)) : PE X (.List es pos) (tE G Wx (mLst mas)) := (pe_lst h).weak w_lst
theorem dIx (hG : X.K = G.K) (ha : PE X a (tE G Wx ma)) (hb : PE X b (tE G Wx mb)) (hs : PlainIx b) : PE X (.Subscript a b pos) (tE G Wx (mOp oIx ma mb)) := by
  have r := ix_seq (X := X)
  rw [hG] at r
  exact (pe_ix r ha hb hs).weak (w_op oIx_ok)
def oSlS : OS := fun x lo hi h => match x with
  | .str z => if z.length ≤ LIM then some (.ok (.str (cutS z lo hi)) h) else none
  | _ => none
theorem oSlS_ok : SlC G oSlS rSlS := fun E μ h H wx x lo hi Q rel rx p => by
  unfold oSlS at p
  split at p
  · rename_i z
    simp only [RU] at rx
    subst rx
    split at p
    · rename_i hc
      exact ⟨z, rfl, lim_le hc, Post.ok rel p _ rfl⟩
    · exact False.elim p
  · exact False.elim p
theorem SlC.or {f g : OS} {r r' : V → Option Int → Option Int → Hp → VK → Prop} (c : SlC G f r) (d : SlC G g r') : SlC G (fun x lo hi h => match f x lo hi h with | some z => some z | none => g x lo hi h) (fun x lo hi H Q => r x lo hi H Q ∨ r' x lo hi H Q) := fun E μ h H wx x lo hi Q rel rx p => by
  cases e : f wx lo hi h with
  | none => simp only [e] at p; exact .inr (d E μ h H wx x lo hi Q rel rx p)
  | some z => simp only [e] at p; exact .inl (c E μ h H wx x lo hi Q rel rx (by rw [e]; exact p))
def oSl : OS := fun x lo hi h => match oSlS x lo hi h with
  | some z => some z
  | none => match oSlL x lo hi h with | some z => some z | none => oSlT x lo hi h
variable {lo hi : Option Expr} {ml mh : MO}
theorem dSl {p2 : Pos} (hG : X.K = G.K) (h : PE X e (tE G Wx ma)) (hl : PO X lo (tO G Wx ml)) (hh : PO X hi (tO G Wx mh)) : PE X (.Subscript e (.Slice lo hi none p2) pos) (tE G Wx (mSl oSl ma ml mh)) := by
  have r2 := (sl_list (X := X)).or sl_tupA
  rw [hG] at r2
  exact (pe_slice ((sl_str (X := X)).or r2) h hl hh).weak (w_sl (oSlS_ok.or (oSlL_ok.or oSlT_ok)))
theorem dNoP : PO X none (tO G Wx mNoPart) := po_none.weak w_noPart
theorem dPart (h : PE X e (tE G Wx ma)) : PO X (some e) (tO G Wx (mPart ma)) := (po_some h).weak w_part
/-! calls of built-ins -/
structure StarOk (X : Cx) (pos : Pos) (e : Expr) (es : List Expr) : Prop where
  s : starEach (e :: es) X.env = (false, eval e X.env) :: starEach es X.env
  p : (backTo pos (starEach es X.env)).any (·.1) = false
theorem dB {id : String} {f : MF} {r : List V → Hp → VK → Prop} (hc : CallR X (.builtin id) r) (cc : CallC G f r) (hm : X.mg x = none) (hg : X.env.kindOf x = some .globalImplicit) (hv : bootBuiltins x = some (.builtin id)) (ha : PA X (e :: es) (tA G Wx mas)) (hn : x ≠ "__name__") (hd : (x == ("__debug__" : Str)) = false) (so : StarOk X pos e es) :
    PE X (.Call (.Name x p) (e :: es) [] pos) (tE G Wx (mCB f mas)) := (pe_callB hc hg hm hv ha hn hd so.s so.p).weak (w_cb cc)
theorem dTy {T : String} {f : MF} {r : List V → Hp → VK → Prop} (hc : CallR X (.type T) r) (cc : CallC G f r) (hm : X.mg x = none) (hg : X.env.kindOf x = some .globalImplicit) (hv : bootBuiltins x = some (.type T)) (ha : PA X (e :: es) (tA G Wx mas)) (hn : x ≠ "__name__") (hd : (x == ("__debug__" : Str)) = false) (so : StarOk X pos e es) :
    PE X (.Call (.Name x p) (e :: es) [] pos) (tE G Wx (mCB f mas)) := (pe_callTy hc hg hm hv ha hn hd so.s so.p).weak (w_cb cc)
theorem cLen (hG : X.K = G.K) : CallR X (.builtin "len") (fun xs H Q => ∃ x n, xs = [x] ∧ LenV G.K x H n ∧ Q (.int n) H) := by
  have r := call_len (X := X)
  rw [hG] at r
  exact r
theorem cAll (hG : X.K = G.K) (hc : X.calm = true) : CallR X (.builtin "all") (fun vs H Q => ∃ (a : Addr) (bs : List Bool), vs = [V.ref a] ∧ SqL G.K H a (bs.map V.bl) ∧ Q (.bl (bs.all id)) H) := by
  have r := cr_all hc
  rw [hG] at r
  exact r
theorem cAny (hG : X.K = G.K) (hc : X.calm = true) : CallR X (.builtin "any") (fun vs H Q => ∃ (a : Addr) (bs : List Bool), vs = [V.ref a] ∧ SqL G.K H a (bs.map V.bl) ∧ Q (.bl (bs.any id)) H) := by
  have r := cr_any hc
  rw [hG] at r
  exact r
theorem cList (hG : X.K = G.K) : CallR X (.type "list") (fun xs H Q => ∃ p ys, xs = [.ref p] ∧ (SqL G.K H p ys ∨ SqT G.K H p ys) ∧ ∀ l, H l = none → Q (.ref l) (upd H l (.lst ys))) := by
  have r := call_list_of (X := X)
  rw [hG] at r
  exact r
theorem cTuple (hG : X.K = G.K) : CallR X (.type "tuple") (fun xs H Q => ∃ p ys, xs = [.ref p] ∧ ((SqL G.K H p ys ∧ ∀ l, H l = none → Q (.ref l) (upd H l (.tup ys))) ∨ (SqT G.K H p ys ∧ Q (.ref p) H))) := by
  have r := call_tuple_of (X := X)
  rw [hG] at r
  exact r
def fIntA : MF := fun ws h => match fInt ws h with | some z => some z | none => fIntS ws h
theorem CallC.or {f g : MF} {r r' : List V → Hp → VK → Prop} (c : CallC G f r) (d : CallC G g r') : CallC G (fun ws h => match f ws h with | some z => some z | none => g ws h) (fun xs H Q => r xs H Q ∨ r' xs H Q) := fun E μ h H ws vs Q rel rs p => by
  cases e : f ws h with
  | none => simp only [e] at p; exact .inr (d E μ h H ws vs Q rel rs p)
  | some z => simp only [e] at p; exact .inl (c E μ h H ws vs Q rel rs (by rw [e]; exact p))
/-- isinstance(e, C) -/
structure IsA (X : Cx) (G : Gm) (c : Expr) (tab : TyK → Option Bool) : Prop where
  at_ : ∃ cv u, IsiC G tab cv u ∧ PE X c (tC cv)
theorem dIsi {tab : TyK → Option Bool} (hG : X.K = G.K) (t : IsA X G c tab) (ha : PE X a (tE G Wx ma)) (hm : X.mg "isinstance" = none) (hg : X.env.kindOf "isinstance" = some .globalImplicit) (so : StarOk X pos a [c]) (so2 : starEach [c] X.env = (false, eval c X.env) :: starEach [] X.env) :
    PE X (.Call (.Name "isinstance" p) [a, c] [] pos) (tE G Wx (mIsi tab ma)) := by
  obtain ⟨cv, u, i, hc⟩ := t.at_
  have r := (call_isi (X := X)).or call_isV
  rw [hG] at r
  exact (pe_callB r hg hm PyProof.Rows.boot_isinstance (pa_cons ha (pa_cons hc pa_nil so2) so.s) (by decide) (by decide) so.s so.p).weak (w_isi i)
/-! methods of built-in types -/
theorem dAppend (ha : PE X o (tE G Wx mo)) (he : PE X e (tE G Wx ma)) (hG : X.K = G.K) (hs : starEach [e] X.env = (false, eval e X.env) :: starEach [] X.env)
    (hb : PE X (.Call (.Attribute o "append" apos) [e] [] pos) (tBM X.K "list" rAppend (tE G Wx mo) (tA G Wx (mCons ma mNil)))) : PE X (.Call (.Attribute o "append" apos) [e] [] pos) (tE G Wx (mBM kList fAppend mo (mCons ma mNil))) := by
  rw [hG] at hb
  exact hb.weak (w_bm kList_ok fAppend_ok)
def fFind : U → MF := fun x ws h => match x, ws with
  | .str a, [.str b] => some (.ok (.int (Txt.find a b)) h)
  | _, _ => none
theorem w_m1 {f : U → MF} {r : V → List V → Hp → VK → Prop} (c : MtC G "str" f r) : ∀ σ H Q, tE G Wx (mBM kStr f mo (mCons ma mNil)) σ H Q → tM1 r (tE G Wx mo) (tE G Wx ma) σ H Q := fun σ H Q ⟨μ, ρ, h, s, q⟩ =>
  ⟨μ, ρ, h, s, (Post.bnd q).mono fun μ1 h1 H1 wx g1 q1 x rx => by
    split at q1
    · rename_i hk
      cases wx <;> first | (cases hk; done) | skip
      rename_i z
      have rx' := rx
      simp only [RU] at rx'
      subst rx'
      refine ⟨⟨z, rfl⟩, μ1, ρ, h1, s.on g1, (Post.bnd (Post.bnd q1)).mono fun μ2 h2 H2 w g2 q2 y ry => ?_⟩
      exact c _ μ2 h2 H2 _ _ [w] [y] Q g2.rel (g2.ru rx) (RUs.cons ry RUs.nil) (Post.ok (E := fun cls d H' => Wx cls d σ H') g2.rel q2)
    · exact False.elim q1⟩
theorem fFind_ok : MtC G "str" fFind (fun x xs H Q => ∃ a b, x = .str a ∧ xs = [.str b] ∧ Q (.int (Txt.find a b)) H) := fun E μ h H wx x ws vs Q rel rx rs q => by
  unfold fFind at q
  split at q
  · rename_i a b
    simp only [RU] at rx
    subst rx
    obtain ⟨v, rfl, r⟩ := rus1 rs
    simp only [RU] at r
    subst r
    exact ⟨a, b, rfl, rfl, Post.ok rel q _ rfl⟩
  · exact False.elim q
structure BaseOk (X : Cx) (o : Expr) (m : Str) (apos pos : Pos) : Prop where
  b : attributeBase o m X.env (eval o X.env) = eval o X.env
  l : (apos.endLine == pos.line) = true
theorem dFind (ha : PE X o (tE G Wx mo)) (he : PE X e (tE G Wx ma)) (hs : starEach [e] X.env = [(false, eval e X.env)]) (bo : BaseOk X o "find" apos pos) : PE X (.Call (.Attribute o "find" apos) [e] [] pos) (tE G Wx (mBM kStr fFind mo (mCons ma mNil))) :=
  (pe_m1 F.slot_str_find F.type_str_find mt_find ha he hs bo.b bo.l).weak (w_m1 fFind_ok)
def strsOf : List U → Option (List Str)
  | [] => some []
  | .str b :: ws => match strsOf ws with
    | some bs => some (b :: bs)
    | none => none
  | _ :: _ => none
theorem strsOf_ok {K : PySem.W.Frag} {μ : Nat → Addr} {n : Nat} {H : Hp} : ∀ {ws : List U} {vs : List V} {bs : List Str}, strsOf ws = some bs → RUs K μ n H ws vs → vs = bs.map V.str
  | [], vs, bs, e, r => by simp only [RUs] at r; subst r; cases e; rfl
  | w :: ws, vs, bs, e, r => by
    cases w <;> first | (cases e; done) | skip
    rename_i b
    simp only [strsOf] at e
    simp only [RUs] at r
    obtain ⟨y, ys, rfl, r1, rs⟩ := r
    cases e1 : strsOf ws with
    | none => rw [e1] at e; cases e
    | some bs2 =>
      rw [e1] at e
      cases e
      simp only [RU] at r1
      rw [r1, strsOf_ok e1 rs]
      rfl
def fJoin : U → MF := fun x ws h => match x, (match ws with
    | [.ref i] => rd h i
    | [.tup us] => some us
    | _ => none) with
  | .str a, some us => match strsOf us with
    | some ys => if (ys.map (·.length)).sum + ys.length * a.length ≤ 1000000 then some (.ok (.str (Txt.join a ys)) h) else none
    | none => none
  | _, _ => none
theorem fJoin_ok : MtC G "str" fJoin (fun x xs H Q => ∃ a p, ∃ ys : List Str, x = .str a ∧ xs = [.ref p] ∧ (SqL G.K H p (ys.map V.str) ∨ SqT G.K H p (ys.map V.str)) ∧ (ys.map (·.length)).sum + ys.length * a.length ≤ 16777216 ∧ Q (.str (Txt.join a ys)) H) := fun E μ h H wx x ws vs Q rel rx rs q => by
  unfold fJoin at q
  split at q
  · rename_i a us eu
    split at q
    · rename_i ys ey
      split at q
      · rename_i hl
        simp only [RU] at rx
        subst rx
        split at eu
        · rename_i i
          obtain ⟨v, rfl, r⟩ := rus1 rs
          simp only [RU] at r
          obtain ⟨_, rfl⟩ := r
          obtain ⟨xs, sq, rr⟩ := rd_ok rel eu
          have := strsOf_ok ey rr
          subst this
          exact ⟨a, _, ys, rfl, rfl, .inl sq, by omega, Post.ok rel q _ rfl⟩
        · rename_i us'
          cases eu
          obtain ⟨v, rfl, r⟩ := rus1 rs
          simp only [RU] at r
          obtain ⟨b, xs, rfl, st, rr⟩ := r
          have := strsOf_ok ey rr
          subst this
          exact ⟨a, _, ys, rfl, rfl, .inr st, by omega, Post.ok rel q _ rfl⟩
        · cases eu
      · exact False.elim q
    · exact False.elim q
  · exact False.elim q
theorem dJoin (hG : X.K = G.K) (ha : PE X o (tE G Wx mo)) (he : PE X e (tE G Wx ma)) (hs : starEach [e] X.env = [(false, eval e X.env)]) (bo : BaseOk X o "join" apos pos) : PE X (.Call (.Attribute o "join" apos) [e] [] pos) (tE G Wx (mBM kStr fJoin mo (mCons ma mNil))) := by
  have r := mt_join (X := X)
  rw [hG] at r
  exact (pe_m1 F.slot_str_join F.type_str_join r ha he hs bo.b bo.l).weak (w_m1 fJoin_ok)
/-! attributes -/
theorem dAttr {f : Str} {ins exc : Nat → Bool} (hG : X.K = G.K) (t : AtX G f ins exc) (ha : PE X o (tE G Wx mo)) (hb : attributeBase o f X.env (eval o X.env) = eval o X.env) : PE X (.Attribute o f pos) (tE G Wx (mAttrX f ins exc mo)) := by
  have r := pe_fldX (pos := pos) ha hb
  rw [hG] at r
  exact r.weak (w_attrX t)
/-! calls of defs -/
structure Callee (P : Program) (w : World) (G : Gm) (mg : Str → Option Value) (base : Heap) (x : Str) (k : Nat) (ps : List Str) (m : MF) : Prop where
  ex : ∃ a fd, mg x = some (.ref a) ∧ PySem.W.keepIn G.K (.ref a) = true ∧ Binds G.K fd ps [] ∧ FnM P w G mg base k a fd ps m
theorem dCall {k j n : Nat} {ps : List Str} {m : MF} (hG : X.K = G.K) (cl : Callee X.prog X.w G X.mg X.base x k ps m) (hr : Room j X.A) (hk : k ≤ j) (tk : Takes X Wx) (hn : ps.length = n) (ha : PA X (e :: es) (tA G Wx mas)) (al : AL mas n) (hg : X.env.kindOf x = some .globalImplicit) (hd : (x == ("__debug__" : Str)) = false) (so : StarOk X pos e es) :
    PE X (.Call (.Name x p) (e :: es) [] pos) (tE G Wx (mCB m mas)) := by
  obtain ⟨a, fd, hm, kp, hb, F⟩ := cl.ex
  unfold FnM at F
  subst hn
  obtain ⟨K, ca⟩ := G
  subst hG
  exact (pe_callS F (hr.mono hk) hg hm kp hb (passAt tk) ha hd so.s so.p).weak (w_call al)
theorem dCall0 {k j : Nat} {m : MF} (hG : X.K = G.K) (cl : Callee X.prog X.w G X.mg X.base x k [] m) (hr : Room j X.A) (hk : k ≤ j) (tk : Takes X Wx) (hg : X.env.kindOf x = some .globalImplicit) (hd : (x == ("__debug__" : Str)) = false) :
    PE X (.Call (.Name x p) [] [] pos) (tE G Wx (mCB m mNil)) := by
  obtain ⟨a, fd, hm, kp, hb, F⟩ := cl.ex
  unfold FnM at F
  obtain ⟨K, ca⟩ := G
  subst hG
  exact (pe_callS0 F (hr.mono hk) hg hm kp hb (passAt tk) hd).weak w_call0
/-! statements -/
theorem dSkip : PSs X [] (tS G Wx mSkip) := pss_nil.weak w_skip
theorem dSeq (h : PS X st (tS G Wx ms)) (k : PSs X rest (tS G Wx mr)) : PSs X (st :: rest) (tS G Wx (mSeq ms mr)) := (pss_cons h k).weak w_seq
theorem dOne (h : PS X st (tS G Wx ms)) : PSs X [st] (tS G Wx ms) := pss_one h
theorem dPass : PS X (.Pass pos) (tS G Wx mSkip) := ps_pass.weak w_skip
theorem dRet (h : PE X e (tE G Wx ma)) : PS X (.Return (some e) pos) (tS G Wx (mRet ma)) := (ps_ret h).weak w_ret
theorem dRetN : PS X (.Return none pos) (tS G Wx mRetN) := ps_retN.weak w_retN
theorem dExpr (h : PE X e (tE G Wx ma)) (hs : swapsWith e none pos.line X.env = pure false) : PS X (.Expr e pos) (tS G Wx (mDrop ma)) := (ps_expr h hs).weak w_drop
theorem dSet {y : Str} {i : Nat} (h : PE X e (tE G Wx ma)) (hN : X.N.Nodup) (hi : X.N[i]? = some y) (hl : locB X.env.scope y = true) (hs : swapsWith e (some (.Name y p)) pos.line X.env = pure false) (hf : X.fn y = true ∨ X.env.scope.names.lookup y = some .local) : PS X (.Assign [.Name y p] e pos) (tS G Wx (mSet i ma)) :=
  (ps_set hN hi (locB_ok hl) h hs hf).weak w_set
theorem dIf {sa sb : List Stmt} {m1 m2 : MS} (h : PT X c (tT G Wx mt)) (ha : PSs X sa (tS G Wx m1)) (hb : PSs X sb (tS G Wx m2)) : PS X (.If c sa sb pos) (tS G Wx (mIf mt m1 m2)) := (ps_if h ha hb).weak w_if
theorem dBrk : PS X (.Break pos) (tS G Wx mBrk) := ps_break.weak w_brk
theorem dCont : PS X (.Continue pos) (tS G Wx mCont) := ps_continue.weak w_cont
theorem dFor {tg iter : Expr} {body : List Stmt} {mi : MI} {mg : MG} {mb : MS} (hp : PassesOwn (model X.prog X.w) X.A X.env X.xe) (hc : X.calm = true) (hi : PI X tg iter (tI G Wx mi)) (hg : PG X tg (tG G mg)) (hb : PSs X body (tS G Wx mb)) (hs : ∀ x, foldedSetIterable iter X.env x = pure x) : PS X (.For tg iter body [] pos) (tS G Wx (mFor mi mg mb)) :=
  (ps_for hp hc hi hg hb hs).weak w_for
theorem dWhile {body : List Stmt} {mb : MS} (hp : PassesOwn (model X.prog X.w) X.A X.env X.xe) (hc : PT X c (tT G Wx mt)) (hb : PSs X body (tS G Wx mb)) : PS X (.While c body [] pos) (tS G Wx (mWhile mt mb)) := (ps_while hp hc hb).weak w_while
theorem dSetIx {i : Expr} {mi : ME} {p1 : Pos} (he : PE X e (tE G Wx ma)) (ho : PE X o (tE G Wx mo)) (hi : PE X i (tE G Wx mi)) (hs : swapsWithSole [.Subscript o i p1] e pos.line X.env = pure false) (hw : swappedStores [.Subscript o i p1] e X.env = pure none) (ht : ∀ (v : Value), assign (o.Subscript i p1) X.env v = do
      let ov ← holding [v] (eval o X.env)
      let iv ← holding [v, ov] (eval i X.env)
      standAt p1
      holding [v, ov, iv] (setItem ov iv v)
      release [v, ov, iv] []) (h1 : List.map (fun x => x.snd) (assignEach [.Subscript o i p1] X.env) = [assign (.Subscript o i p1) X.env]) : PS X (.Assign [.Subscript o i p1] e pos) (tS G Wx (mSetIx ma mo mi)) :=
  (ps_asg he (pg_sub ho hi set_list ht) hs hw h1).weak w_setIx
theorem dAsg {tg : Expr} {g : MG} (he : PE X e (tE G Wx ma)) (hg : PG X tg (tG G g)) (hs : swapsWithSole [tg] e pos.line X.env = pure false) (hw : swappedStores [tg] e X.env = pure none) (h1 : List.map (fun x => x.snd) (assignEach [tg] X.env) = [assign tg X.env]) : PS X (.Assign [tg] e pos) (tS G Wx (mAsg g ma)) := (ps_asg he hg hs hw h1).weak w_asg
theorem gName {y : Str} {i : Nat} (hN : X.N.Nodup) (hi : X.N[i]? = some y) (hl : locB X.env.scope y = true) (hf : X.fn y = true ∨ X.env.scope.names.lookup y = some .local) : PG X (.Name y pos) (tG G (gN i)) := (pg_name hN hi (locB_ok hl) hf).weak w_gN
theorem gNil' : PGs X [] (tGs G gE) := pgs_nil.weak w_gE
/-! iterators -/
theorem iList' {tg : Expr} (hG : X.K = G.K) (h : PE X e (tE G Wx ma)) : PI X tg e (tI G Wx (iL ma)) := by
  have r := pi_list (tg := tg) h
  rw [hG] at r
  exact r.weak w_iL
theorem iTup' {tg : Expr} (hG : X.K = G.K) (h : PE X e (tE G Wx ma)) : PI X tg e (tI G Wx (iT ma)) := by
  have r := pi_tup (tg := tg) h
  rw [hG] at r
  exact r.weak w_iT
theorem iStr' {tg : Expr} (h : PE X e (tE G Wx ma)) : PI X tg e (tI G Wx (iS ma)) := (pi_str h).weak w_iS
theorem iRange1 {tg : Expr} (h : PE X e (tE G Wx ma)) (hm : X.mg "range" = none) (hg : X.env.kindOf "range" = some .globalImplicit) (hs1 : starEach [e] X.env = (false, eval e X.env) :: starEach [] X.env) (hs : starEach [e] X.env = [(false, eval e X.env)]) : PI X tg (.Call (.Name "range" p) [e] [] pos) (tI G Wx (iR1 ma)) :=
  (pi_range1 hg hm (pa_cons h pa_nil hs1) hs).weak w_iR1
theorem iRange2 {tg : Expr} (ha : PE X a (tE G Wx ma)) (hb : PE X b (tE G Wx mb)) (hm : X.mg "range" = none) (hg : X.env.kindOf "range" = some .globalImplicit) (hs1 : starEach [a, b] X.env = (false, eval a X.env) :: starEach [b] X.env) (hs2 : starEach [b] X.env = (false, eval b X.env) :: starEach [] X.env)
    (hs : starEach [a, b] X.env = [(false, eval a X.env), (false, eval b X.env)]) (hs3 : starEach [b] X.env = [(false, eval b X.env)]) : PI X tg (.Call (.Name "range" p) [a, b] [] pos) (tI G Wx (iR2 ma mb)) :=
  (pi_range2 hg hm (pa_cons ha (pa_cons hb pa_nil hs2) hs1) hs hs3).weak w_iR2
/-! raise, try -/
structure OwnErr (P : Program) (w : World) (G : Gm) (mg : Str → Option Value) (base : Heap) (x : Str) (k c n : Nat) (mk : MX) : Prop where
  ox : OexC G.K (G.ca c)
  gl : mg x = some (.ref (G.ca c))
  ex : ∃ fI fd ps, PySem.W.findIn G.K (.ref (G.ca c)) "__init__" = some (some (.ref fI)) ∧ PySem.W.typeIn G.K (.ref fI) = some (.type "function") ∧ Binds G.K fd ps [] ∧ FnOk P w G.K mg base CX0 k fI fd ps (spX G c n mk)
theorem passE {X : Cx} : Passes CX0 X (fun _ _ _ => False) := fun _ _ _ _ _ _ _ h => h.elim
theorem dRaise {k j c n : Nat} {mk : MX} (hG : X.K = G.K) (oe : OwnErr X.prog X.w G X.mg X.base x k c n mk) (hr : Room j X.A) (hk : k + 1 ≤ j) (tk : Takes X Wx) (hc : X.calm = true) (ha : PA X (e :: es) (tA G Wx mas)) (al : AL mas n) (hn : n ≤ 1000) (hg : X.env.kindOf x = some .globalImplicit) (hd : (x == ("__debug__" : Str)) = false) (so : StarOk X pos e es) :
    PS X (.Raise (some (.Call (.Name x p) (e :: es) [] pos)) none p') (tS G Wx (mRaise c mk mas)) := by
  obtain ⟨fI, fd, ps, h1, h2, hb, F⟩ := oe.ex
  have T := oe.ox
  have gl := oe.gl
  obtain ⟨K, ca⟩ := G
  subst hG
  exact (ps_raise hc tk (pmk_oex T h1 h2 F (hr.mono hk) hb .nil passE hg gl ha hd so.s so.p)).weak (w_raise al hn)
theorem dTry {n : Str} {cv : Value} {i : Nat} {body suite : List Stmt} {b₀ : Stmt} {np pos' : Pos} {tab : Nat → Option Bool} {mb ms : MS} (hG : X.K = G.K) (t : TakC G tab cv) (hs : X.stack = X.env :: X.outer) (hf : X.env.frame = some X.env.locals) (hex : X.ex = []) (hN : X.N.Nodup) (hi : X.N[i]? = some n) (hln : X.env.kindOf n = some .local) (hc : Names X x cv) (tk : Takes X Wx)
    (hb : ∀ (W : WX) (pn : List (Addr × Obj)) (xe : Value → Shared → Prop), Takes (X.tr pn xe) W → PassesOwn (model X.prog X.w) X.A X.env xe → PSs (X.tr pn xe) body (tS G W mb))
    (hsu : ∀ (a : Addr) (pn : List (Addr × Obj)), PSs (X.suite a pn) (b₀ :: suite) (tS G W0 ms)) :
    PS X (.Try body [.ExceptHandler (some (.Name x np)) (some n) (b₀ :: suite) pos'] [] [] pos) (tS G Wx (mTry tab i mb ms)) := by
  have r := ps_try_asT (pos := pos) (pos' := pos') (np := np) (Wout := Wx) (tb := fun W => tS G W mb) hs hf hex hN hi hln hc tk hb hsu
  rw [hG] at r
  exact r.weak (w_try t)
end
end ML

set_option maxHeartbeats 4000000
/-! comprehensions, isinstance, own errors as they are printed -/
namespace ML
open PySem L2
section
variable {X : Cx} {G : Gm} {Wx : WX} {e a b c o elt tg iter : Expr} {es ifs : List Expr} {x : Str} {pos p : Pos} {ma mb mc mo me : ME} {mt : MT} {mi : MI} {scope : Scope} {own : List (Str × Nat)}
theorem dLc (t : NT) (hG : X.K = G.K) (hc : X.calm = true) (hN : X.N.Nodup) (hi : PI X tg iter (tI G Wx mi)) (bk : BlkOk X.N X.env.scope scope own)
    (hg : ∀ (s : Shared) (H : Hp) (C : Addr) (cl : List (Str × Addr)) (fp : List Addr), PG (X.blk s H scope (compEnvC scope cl C X.env) fp) tg (t.tg G.K))
    (ht : ∀ (s : Shared) (H : Hp) (C : Addr) (cl : List (Str × Addr)) (fp : List Addr), PTs (X.blk s H scope (compEnvC scope cl C X.env) fp) ifs (tT G W0 mt))
    (he : ∀ (s : Shared) (H : Hp) (C : Addr) (cl : List (Str × Addr)) (fp : List Addr), PE (X.blk s H scope (compEnvC scope cl C X.env) fp) elt (tE G W0 me))
    (hv : ∀ i ∈ t.vs, i ∈ own.map (·.2)) (hs : ∀ x, foldedSetIterable iter X.env x = pure x) :
    PE X (.ListComp elt [⟨tg, iter, ifs, 0⟩] scope pos) (tE G Wx (mLc mi t mt me (own.map (·.2)))) :=
  (pe_lc hc hN hi bk hg ht he hs).weak (w_lc hv)
theorem dLcSet (t : NT) {i : Nat} {y : Str} {py spos : Pos} (hG : X.K = G.K) (hc : X.calm = true) (hN : X.N.Nodup) (hy : X.N[i]? = some y) (hyl : X.env.scope.names.lookup y = some .local)
    (hsw : swapsWith (.ListComp elt [⟨tg, iter, ifs, 0⟩] scope pos) (some (.Name y py)) spos.line X.env = pure true) (hi : PI X tg iter (tI G Wx mi)) (bk : BlkOk X.N X.env.scope scope own)
    (hg : ∀ (s : Shared) (H : Hp) (C : Addr) (cl : List (Str × Addr)) (fp : List Addr), PG (X.blk s H scope (compEnvC scope cl C X.env) fp) tg (t.tg G.K))
    (ht : ∀ (s : Shared) (H : Hp) (C : Addr) (cl : List (Str × Addr)) (fp : List Addr), PTs (X.blk s H scope (compEnvC scope cl C X.env) fp) ifs (tT G W0 mt))
    (he : ∀ (s : Shared) (H : Hp) (C : Addr) (cl : List (Str × Addr)) (fp : List Addr), PE (X.blk s H scope (compEnvC scope cl C X.env) fp) elt (tE G W0 me))
    (hv : ∀ i ∈ t.vs, i ∈ own.map (·.2)) (hs : ∀ x, foldedSetIterable iter X.env x = pure x) :
    PS X (.Assign [.Name y py] (.ListComp elt [⟨tg, iter, ifs, 0⟩] scope pos) spos) (tS G Wx (mSet i (mLc mi t mt me (own.map (·.2))))) :=
  (ps_setLc hc hN hy hyl hsw hi bk hg ht he hs).weak (w_setLc hv)
theorem dYes : PTs X [] (tT G W0 mYes) := pts_nil.weak w_yes
theorem dIf1 (h : PT X c (tT G W0 mt)) : PTs X [c] (tT G W0 mt) := pts_one h
theorem ntOne {y : Str} {i : Nat} (hN : X.N.Nodup) (hi : X.N[i]? = some y) (hl : locB X.env.scope y = true) (hf : X.fn y = true ∨ X.env.scope.names.lookup y = some .local) : PG X (.Name y pos) ((NT.one i).tg G.K) := pg_name hN hi (locB_ok hl) hf
/-- isinstance by a built-in class: only the plain kinds are answered, own instances and errors where they are told -/
def tabInt : TyK → Option Bool
  | .int => some true
  | .bl => some true
  | .non => some false
  | .str => some false
  | .lst => some false
  | .tup => some false
  | _ => none
def tabBool : TyK → Option Bool
  | .int => some false
  | .bl => some true
  | .non => some false
  | .str => some false
  | .lst => some false
  | .tup => some false
  | _ => none
def tabStr : TyK → Option Bool
  | .int => some false
  | .bl => some false
  | .non => some false
  | .str => some true
  | .lst => some false
  | .tup => some false
  | _ => none
def tabTup : TyK → Option Bool
  | .int => some false
  | .bl => some false
  | .non => some false
  | .str => some false
  | .lst => some false
  | .tup => some true
  | _ => none
theorem isiInt : IsiC G tabInt (.ty "int") (.type "int") := ⟨ClsV.ty _, fun k b h => by cases k <;> cases h <;> exact kit_ty (by decide +kernel), (fun c b h => nomatch h), (fun c b h => nomatch h)⟩
theorem isiBool : IsiC G tabBool (.ty "bool") (.type "bool") := ⟨ClsV.ty _, fun k b h => by cases k <;> cases h <;> exact kit_ty (by decide +kernel), (fun c b h => nomatch h), (fun c b h => nomatch h)⟩
theorem isiStr : IsiC G tabStr (.ty "str") (.type "str") := ⟨ClsV.ty _, fun k b h => by cases k <;> cases h <;> exact kit_ty (by decide +kernel), (fun c b h => nomatch h), (fun c b h => nomatch h)⟩
theorem isiTup : IsiC G tabTup (.ty "tuple") (.type "tuple") := ⟨ClsV.ty _, fun k b h => by cases k <;> cases h <;> exact kit_ty (by decide +kernel), (fun c b h => nomatch h), (fun c b h => nomatch h)⟩
theorem isaTy {n : String} {tab : TyK → Option Bool} (t : IsiC G tab (.ty n) (.type n)) (hg : X.env.kindOf x = some .globalImplicit) (hm : X.mg x = none) (hb : bootBuiltins x = some (.type n)) (hn : x ≠ "__name__") (hd : (x == ("__debug__" : Str)) = false) : IsA X G (.Name x pos) tab :=
  ⟨.ty n, .type n, t, pe_bltn (v := .ty n) hg hm hb (by rfl) hn hd⟩
/-- isinstance by an own class: the told answers -/
structure OwnK (G : Gm) (mg : Str → Option Value) (x : Str) (tab : TyK → Option Bool) : Prop where
  ex : ∃ C, mg x = some (.ref C) ∧ IsiC G tab (.ref C) (.ref C)
theorem isaOwn {tab : TyK → Option Bool} (o : OwnK G X.mg x tab) (hg : X.env.kindOf x = some .globalImplicit) (hd : (x == ("__debug__" : Str)) = false) : IsA X G (.Name x pos) tab := by
  obtain ⟨C, hm, i⟩ := o.ex
  exact ⟨.ref C, .ref C, i, pe_glob (v := .ref C) hg hm (by rfl) hd⟩
theorem cAbs : CallR X (.builtin "abs") (fun xs H Q => ∃ i, xs = [.int i] ∧ Q (.int (if i < 0 then -i else i)) H) := call_abs
theorem cInt : CallR X (.type "int") (fun xs H Q => ((∃ i, xs = [.int i] ∧ Q (.int i) H) ∨ ∃ k, xs = [.bl k] ∧ Q (.int (if k then 1 else 0)) H) ∨ ∃ a n, xs = [.str a] ∧ PySem.intText? a = some n ∧ a.length ≤ 640 ∧ Q (.int n) H) := (call_int1 (X := X)).or call_int_str
theorem fIntA_ok : CallC G fIntA (fun xs H Q => ((∃ i, xs = [.int i] ∧ Q (.int i) H) ∨ ∃ k, xs = [.bl k] ∧ Q (.int (if k then 1 else 0)) H) ∨ ∃ a n, xs = [.str a] ∧ PySem.intText? a = some n ∧ a.length ≤ 640 ∧ Q (.int n) H) := fInt_ok.or fIntS_ok
/-- whatever stands in a row: the kind shows itself -/
def iSeq (e : ME) : MI := fun ρ h => match e ρ h with
  | some (.ok (.str _) _) => iS e ρ h
  | some (.ok (.tup _) _) => iT e ρ h
  | _ => iL e ρ h
theorem iSeq' (hG : X.K = G.K) (h : PE X e (tE G Wx ma)) : PI X tg e (tI G Wx (iSeq ma)) := by
  have r1 : PI X tg e (tI G Wx (iS ma)) := iStr' h
  have r2 : PI X tg e (tI G Wx (iT ma)) := iTup' hG h
  have r3 : PI X tg e (tI G Wx (iL ma)) := iList' hG h
  refine ⟨fun pins s σ H R I ⟨μ, ρ, hm, st, p⟩ => ?_⟩
  unfold iSeq at p
  split at p
  · exact r1.run pins s σ H R I ⟨μ, ρ, hm, st, p⟩
  · exact r2.run pins s σ H R I ⟨μ, ρ, hm, st, p⟩
  · exact r3.run pins s σ H R I ⟨μ, ρ, hm, st, p⟩
theorem qAnd' (h : PT X a (tT G Wx mt)) {mu : MT} (k : PW X (.BoolOp .And (b :: es) pos) (tT G Wx mu)) : PT X (.BoolOp .And (a :: b :: es) pos) (tT G Wx (mTAnd mt mu)) := (qAnd h k).pt
theorem qOr' (h : PT X a (tT G Wx mt)) {mu : MT} (k : PW X (.BoolOp .Or (b :: es) pos) (tT G Wx mu)) : PT X (.BoolOp .Or (a :: b :: es) pos) (tT G Wx (mTOr mt mu)) := (qOr h k).pt
theorem units64 {k : Nat} {A : Around} (hr : Room k A) : A.units + 64 < cLine := by have := hr.un; omega
abbrev fIntA2 : MF := fun ws h => match fInt ws h with | some z => some z | none => fIntS ws h
end
end ML

set_option maxHeartbeats 4000000
/-! the computations, step by step -/
namespace ML
open PySem L2
section
variable {ρ : Ev} {h : Hm} {i j : Int} {a b : Str}
@[simp] theorem ev_oI0 {g : Int → Int → U} : oI0 g (.int i) (.int j) h = some (.ok (g i j) h) := rfl
@[simp] theorem ev_oI {C : Int → Int → Bool} {g : Int → Int → U} : oI C g (.int i) (.int j) h = if C i j = true then some (.ok (g i j) h) else none := rfl
@[simp] theorem ev_addI : oAdd (.int i) (.int j) h = some (.ok (.int (i + j)) h) := rfl
@[simp] theorem ev_addS : oAdd (.str a) (.str b) h = if a.length + b.length ≤ LIM then some (.ok (.str (a ++ b)) h) else none := by
  unfold oAdd oAddS
  by_cases hl : a.length + b.length ≤ LIM
  · simp [hl, oI0]
  · simp [hl, oI0, oAddL, oAddT2]
@[simp] theorem ev_mulA : oMulA (.int i) (.int j) h = if cMul i j = true then some (.ok (.int (i * j)) h) else none := by
  unfold oMulA
  by_cases hl : cMul i j = true
  · simp [hl]
  · simp [hl, oRep]
@[simp] theorem ev_eqI {n : Nat} : oEq n (.int i) (.int j) h = some (.ok (.bl (decide (i = j))) h) := by simp [oEq, oEqS, sEq]
@[simp] theorem ev_eqS {n : Nat} : oEq n (.str a) (.str b) h = some (.ok (.bl (decide (a = b))) h) := by simp [oEq, oEqS, sEq]
@[simp] theorem ev_neS {n : Nat} : oNe n (.str a) (.str b) h = some (.ok (.bl (!decide (a = b))) h) := by simp [oNe, oEqS, sEq]
@[simp] theorem ev_neI {n : Nat} : oNe n (.int i) (.int j) h = some (.ok (.bl (!decide (i = j))) h) := by simp [oNe, oEqS, sEq]
@[simp] theorem ev_int : fIntA2 [.int i] h = some (.ok (.int i) h) := rfl
@[simp] theorem ev_intB {k : Bool} : fIntA2 [.bl k] h = some (.ok (.int (if k then 1 else 0)) h) := rfl
@[simp] theorem ev_abs : fAbs [.int i] h = some (.ok (.int (if i < 0 then -i else i)) h) := rfl
@[simp] theorem ev_rdL {l : Nat} {ws : List U} (e : h[l]? = some (.lst ws)) : rd h l = some ws := by simp [rd, e]
theorem ev_ix {l : Nat} {ws : List U} {w : U} (e : rd h l = some ws) (e2 : atI ws i = some w) : oIx (.ref l) (.int i) h = some (.ok w h) := by simp [oIx, e, e2]
theorem ev_ixT {ws : List U} {w : U} (e2 : atI ws i = some w) : oIx (.tup ws) (.int i) h = some (.ok w h) := by simp [oIx, e2]
theorem ev_ixS {c : Nat} (e2 : atI a.cps.toList i = some c) (hl : a.length ≤ LIM) : oIx (.str a) (.int i) h = some (.ok (.str ⟨#[c]⟩) h) := by simp [oIx, e2, hl]
theorem ev_len {l : Nat} {ws : List U} (e : rd h l = some ws) : fLen [.ref l] h = some (.ok (.int ws.length) h) := by simp [fLen, e]
@[simp] theorem ev_lenS : fLen [.str a] h = if a.length ≤ LIM then some (.ok (.int a.length) h) else none := rfl
@[simp] theorem ev_lenT {ws : List U} : fLen [.tup ws] h = some (.ok (.int ws.length) h) := rfl
theorem atI_0 {α : Type} {x : α} {xs : List α} : atI (x :: xs) 0 = some x := by
  simp [atI, ixN]
end
end ML

set_option maxHeartbeats 4000000
/-! loops and comprehensions whose turns are known; texts -/
namespace ML
open PySem L2
section
variable {ρ : Ev} {h : Hm}
theorem lcGo_pure {chk : Hm → Prop} {t : NT} {te : ME} {D : Nat} {g : U → U} (hD : ∃ h1, ∀ acc, chk (h1 ++ [.lst acc])) : True := trivial
theorem lc_pure {it : MI} {t : NT} {te : ME} {vs : List Nat} {h1 : Hm} {ws : List U} {chk : Hm → Prop} {g : U → U} (hi : it ρ h = some (.ok (ws, chk) h1)) (hc : ∀ acc, chk (h1 ++ [.lst acc]))
    (hl : ws.length ≤ LIM) (ht : ∀ w ∈ ws, ∃ ρ1, t.set w (wipeE ρ vs) = some ρ1 ∧ ∀ acc, te ρ1 (h1 ++ [.lst acc]) = some (.ok (g w) (h1 ++ [.lst acc]))) :
    mLc it t mYes te vs ρ h = some (.ok (.ref h1.length) (h1 ++ [.lst (ws.map g)])) := by
  unfold mLc
  rw [hi]
  simp only [bnd_ok]
  have key : ∀ (us acc : List U), (∀ w ∈ us, w ∈ ws) → acc.length + us.length ≤ LIM → lcGo chk t mYes te (wipeE ρ vs) h1.length us (h1 ++ [.lst acc]) = some (.ok (.ref h1.length) (h1 ++ [.lst (acc ++ us.map g)])) := by
    intro us
    induction us with
    | nil => intro acc _ _; unfold lcGo; rw [if_pos (hc acc)]; simp
    | cons w us ih =>
      intro acc hm hl
      obtain ⟨ρ1, e1, e2⟩ := ht w (hm w List.mem_cons_self)
      unfold lcGo
      rw [if_pos (hc acc), e1]
      simp only [mYes, noEx, bnd_ok, if_true, e2]
      have : (h1 ++ [Cell.lst acc])[h1.length]? = some (.lst acc) := by simp
      rw [this]
      simp only
      simp only [List.length_cons] at hl
      rw [if_pos (by omega)]
      have e3 : (h1 ++ [Cell.lst acc]).set h1.length (.lst (acc ++ [g w])) = h1 ++ [.lst (acc ++ [g w])] := by
        rw [List.set_append_right _ _ (Nat.le_refl _)]
        simp
      rw [e3, ih (acc ++ [g w]) (fun u hu => hm u (List.mem_cons_of_mem _ hu)) (by simp; omega)]
      simp
  have := key ws [] (fun w hw => hw) (by simpa using hl)
  simpa using this
theorem blsOf_map {α : Type} {p : α → Bool} : ∀ (L : List α), blsOf (L.map fun c => .bl (p c)) = some (L.map p)
  | [] => rfl
  | c :: L => by
    show (match blsOf (L.map fun c => U.bl (p c)) with
      | some bs => some (p c :: bs)
      | none => none) = _
    rw [blsOf_map L]
    rfl
/-- a loop each turn of which goes on -/
theorem for_nil {chk : Hm → Prop} {g : MG} {body : MS} (hc : chk h) : forC chk g body [] ρ h = some (.nx ρ h) := by
  unfold forC; rw [if_pos hc]
theorem for_cons {chk : Hm → Prop} {g : MG} {body : MS} {w : U} {ws : List U} {ρ1 ρ2 : Ev} {h2 : Hm} (hc : chk h) (hg : g w ρ = some ρ1) (hb : body ρ1 h = some (.nx ρ2 h2)) : forC chk g body (w :: ws) ρ h = forC chk g body ws ρ2 h2 := by
  conv => lhs; unfold forC
  rw [if_pos hc, hg]
  simp only [hb]
theorem for_rt {chk : Hm → Prop} {g : MG} {body : MS} {w x : U} {ws : List U} {ρ1 : Ev} {h2 : Hm} (hc : chk h) (hg : g w ρ = some ρ1) (hb : body ρ1 h = some (.rt x h2)) : forC chk g body (w :: ws) ρ h = some (.rt x h2) := by
  conv => lhs; unfold forC
  rw [if_pos hc, hg]
  simp only [hb]
theorem str_ext {a b : Str} (h : a.cps.toList = b.cps.toList) : a = b := by
  cases a; cases b
  simp only at h
  congr
  exact Array.toList_inj.mp h
theorem str_eq_iff {a b : Str} : a = b ↔ a.cps.toList = b.cps.toList := ⟨fun h => by rw [h], str_ext⟩
theorem str_len (a : Str) : a.length = a.cps.toList.length := by simp [Str.length]
theorem str_app (a b : Str) : (a ++ b).cps.toList = a.cps.toList ++ b.cps.toList := by
  show (a.cps ++ b.cps).toList = _
  simp
theorem str_app_len (a b : Str) : (a ++ b).length = a.length + b.length := by
  rw [str_len, str_app, List.length_append, ← str_len, ← str_len]
def isDig (c : Nat) : Bool := decide (48 ≤ c) && decide (c ≤ 57)
theorem digs : ("0123456789" : Str).cps.toList = [48, 49, 50, 51, 52, 53, 54, 55, 56, 57] := by decide +kernel
theorem digs_mem (c : Nat) : (decide (c ∈ ("0123456789" : Str).cps.toList)) = isDig c := by
  rw [digs, isDig]
  simp only [List.mem_cons, List.not_mem_nil, or_false]
  by_cases h : 48 ≤ c ∧ c ≤ 57
  · have : c = 48 ∨ c = 49 ∨ c = 50 ∨ c = 51 ∨ c = 52 ∨ c = 53 ∨ c = 54 ∨ c = 55 ∨ c = 56 ∨ c = 57 := by omega
    simp [h.1, h.2, this]
  · have : ¬ (c = 48 ∨ c = 49 ∨ c = 50 ∨ c = 51 ∨ c = 52 ∨ c = 53 ∨ c = 54 ∨ c = 55 ∨ c = 56 ∨ c = 57) := by omega
    simp only [this, decide_false]
    by_cases h1 : 48 ≤ c <;> by_cases h2 : c ≤ 57 <;> simp [h1, h2] at h ⊢
theorem find_one (z : Str) (c : Nat) : (Txt.find z ⟨#[c]⟩ = -1 ∧ c ∉ z.cps.toList) ∨ ∃ i : Nat, Txt.find z ⟨#[c]⟩ = (i : Int) ∧ z.cps.toList[i]? = some c := by
  have at_ : ∀ i, StrLaws.At z ⟨#[c]⟩ z.length i ↔ z.cps.toList[i]? = some c := fun i => by
    unfold StrLaws.At Builtin.Str.subAt
    show i + 1 ≤ z.cps.size ∧ (z.cps.extract i (i + 1) == #[c]) = true ↔ _
    rw [beq_iff_eq]
    constructor
    · rintro ⟨h1, h2⟩
      have : (z.cps.extract i (i + 1))[0]? = some c := by rw [h2]; rfl
      rw [Array.getElem?_extract] at this
      simp at this
      rw [Array.getElem?_toList]
      have := this.2
      simpa using this
    · intro e
      rw [Array.getElem?_toList] at e
      have hi := (Array.getElem?_eq_some_iff.mp e).1
      refine ⟨hi, ?_⟩
      apply Array.ext
      · simp; omega
      · intro j h1 h2
        simp at h2
        subst h2
        simp
        exact (Array.getElem?_eq_some_iff.mp e).2
  rcases PyProof.Rows.find_whole z ⟨#[c]⟩ with ⟨e, no⟩ | ⟨i, e, hi, _⟩
  · refine .inl ⟨e, fun hc => ?_⟩
    obtain ⟨i, hi⟩ := List.getElem?_of_mem hc
    exact no i ((at_ i).mpr hi)
  · exact .inr ⟨i, e, (at_ i).mp hi⟩
theorem find_dig (c : Nat) : Txt.find ("0123456789" : Str) ⟨#[c]⟩ = if isDig c = true then ((c - 48 : Nat) : Int) else -1 := by
  rcases find_one "0123456789" c with ⟨e, no⟩ | ⟨i, e, hi⟩
  · have := digs_mem c
    rw [decide_eq_false no] at this
    rw [e, ← this]
    rfl
  · rw [e]
    rw [digs] at hi
    have hl := (List.getElem?_eq_some_iff.mp hi).1
    have hl : i < 10 := hl
    have : c = 48 + i := by
      rcases i with _ | _ | _ | _ | _ | _ | _ | _ | _ | _ | i <;> first | omega | (simp at hi; omega)
    subst this
    rw [if_pos (by unfold isDig; simp; omega)]
    simp
end
end ML

set_option maxHeartbeats 4000000
/-! raise of an own error that has no __init__ of its own -/
namespace ML
open PySem PySem.Spec PyProof.Rows L2
section
variable {X : Cx} {pos p p' : Pos} {x : Str} {C : Addr}
theorem pmk_bare {bmB : List Value} {B newId initId : String} (F : ExcBaseFacts B newId initId bmB) (q : PySem.W.excIn X.K C bmB newId = true) (gC : X.mg x = some (.ref C)) (kC : PySem.W.keepIn X.K (.ref C) = true) (r : Raises X (.ref C)) (hg : Gl X x)
    (hdb : (x == ("__debug__" : Str)) = false) : PMk X (.Call (.Name x p) [] [] pos) (fun _ H Q => Q (.ref C) none H) := by
  intro pins s σ H Q I h
  refine wpAny_Call_Name_kw (ld_glob I hg gC ?_ hdb)
  obtain ⟨bm, N, nm, qn, bs, hdct, sn, sub, ab, col, dd, k0, k1, k2, k3, k5, mN, hC, hN, hni, T⟩ := exc_obj I.kIn q
  exact PySem.W.callWith_K0 I.kIn kC (wpAny_call_exc_subT F T hC hN hni (fun h' e hm => mk_of I hm r h (I.hok.gone hm.new)) (Nat.zero_le _))
def mRaise0 (c : Nat) : MS := fun ρ h => some (.ex c [] ρ h)
structure BareErr (G : Gm) (mg : Str → Option Value) (x : Str) (c : Nat) : Prop where
  ex : ∃ (bmB : List Value) (B newId initId : String), ExcBaseFacts B newId initId bmB ∧ PySem.W.excIn G.K (G.ca c) bmB newId = true
  gl : mg x = some (.ref (G.ca c))
  kp : PySem.W.keepIn G.K (.ref (G.ca c)) = true
  h1 : PySem.W.subIn G.K (.ref (G.ca c)) (.type "BaseException") = some true
  h2 : PySem.W.typeIn G.K (.ref (G.ca c)) = some (.type "type")
theorem dRaise0 {G : Gm} {Wx : WX} {c : Nat} (hG : X.K = G.K) (b : BareErr G X.mg x c) (tk : Takes X Wx) (hc : X.calm = true) (hg : X.env.kindOf x = some .globalImplicit) (hd : (x == ("__debug__" : Str)) = false) :
    PS X (.Raise (some (.Call (.Name x p) [] [] pos)) none p') (tS G Wx (mRaise0 c)) := by
  obtain ⟨⟨bmB, B, newId, initId, F, q⟩, gl, kp, h1, h2⟩ := b
  obtain ⟨K, ca⟩ := G
  subst hG
  refine (ps_raise hc tk (pmk_bare F q gl kp (raises_own h1 h2) hg hd)).weak fun D σ H ⟨μ, ρ, h, s, p⟩ => ?_
  exact p μ σ H (.ref (ca c)) none (Gr.refl s.rel) s ⟨rfl, .inl ⟨rfl, rfl⟩⟩
end
end ML

set_option maxHeartbeats 4000000
/-! an own error's __init__ that keeps a new list of its argument -/
namespace ML
open PySem L2
def mkL (f : Str) : MX := fun ws h => match (match ws with
    | [.ref i] => rd h i
    | [.tup us] => some us
    | _ => none) with
  | some us => some ([(f, .ref h.length)], h ++ [.lst us])
  | none => none
section
variable {G : Gm} {CX : CXT} {P : Program} {w : World} {mg : Str → Option Value} {base : Heap} {k : Nat} {f cc cda : Addr} {c : Nat} {name qual : Str} {params : Arguments} {m : Str} {j0 : Nat} {p0 p1 p2 p3 p4 p5 q1 q2 q3 q4 q5 q6 : Pos} {scope : Scope} {dV kV doc pm ct oc : Value} {an od : Option Addr}
    {osl : Array (Option Value)} {pn fn : Str}
theorem init_lst (lk : G.K.lookup f = some ⟨oc, od, .func (PySem.W.ksFn name qual params [.Expr (.Call (.Attribute (.Call (.Name "super" p0) [] [] p1) "__init__" p2) [.Constant (.str m) j0 p5] [] p3) p4, .Assign [.Attribute (.Name "self" q1) fn q2] (.Call (.Name "list" q5) [.Name pn q3] [] q6) q4] scope dV kV doc pm an (.ref cda) ct cc), osl⟩)
    (T : SupTxt G.K mg (G.ca c) f cc cda qual) (S : SupScope ["self", pn] ["self", pn] scope) (hfile : ((P.main.file : Str) == ("/claim/cut.py" : Str)) = true) (htop : (P.main.scope.names.lookup ("super" : Str)).isSome = false)
    (har : ∃ ar : Arg, (params.posonlyargs ++ params.args).head? = some ar ∧ ([("self" : Str), pn]).head? = some ar.arg)
    (hswap : ∀ env : Env, swapsWith (.Call (.Attribute (.Call (.Name "super" p0) [] [] p1) "__init__" p2) [.Constant (.str m) j0 p5] [] p3) none p4.line env = pure false)
    (hmeth : ∀ env : Env, eval (.Call (.Attribute (.Call (.Name "super" p0) [] [] p1) "__init__" p2) [.Constant (.str m) j0 p5] [] p3) env = (do
      let ov ← attributeBase (.Call (.Name "super" p0) [] [] p1) "__init__" env (eval (.Call (.Name "super" p0) [] [] p1) env)
      standAt p2.atName
      let (f, first) ← holding [ov] (getMethod ov "__init__" (pure false))
      callWith p3 f first (backTo p3 (starEach [.Constant (.str m) j0 p5] env)) []))
    (hstar : ∀ env : Env, starEach [.Constant (.str m) j0 p5] env = (false, eval (.Constant (.str m) j0 p5) env) :: starEach [] env)
    (hlist : mg "list" = none) (hls : scope.names.lookup ("list" : Str) = some NameKind.globalImplicit) (hsw2 : ∀ env : Env, swapsWith (.Call (.Name "list" q5) [.Name pn q3] [] q6) (some (.Attribute (.Name "self" q1) fn q2)) q4.line env = pure false)
    (hpn : (pn == ("__debug__" : Str)) = false ∧ (pn == ("__classdict__" : Str)) = false) (hfn : PySem.W.findIn G.K (.ref (G.ca c)) fn = some none) :
    FnOk P w G.K mg base CX (k + 1) f (PySem.W.ksFn name qual params [.Expr (.Call (.Attribute (.Call (.Name "super" p0) [] [] p1) "__init__" p2) [.Constant (.str m) j0 p5] [] p3) p4, .Assign [.Attribute (.Name "self" q1) fn q2] (.Call (.Name "list" q5) [.Name pn q3] [] q6) q4] scope dV kV doc pm an (.ref cda) ct cc) ["self", pn] (spX G c 1 (mkL fn)) := by
  refine fnS_of lk T S hfile htop har (fun vs H Q E z => ?_) hswap hmeth hstar fun A outer s H vs Q E hr hsp => ?_
  · obtain ⟨a, xs, μ, h, ws, fs, h2, rfl, hl, _⟩ := z
    simp [hl]
  · obtain ⟨a, xs, μ, h, ws, fs, h2, rfl, hl, ha, rel, off, rs, em, q⟩ := hsp
    have hpe : PE (cxS CX P w G.K mg base ["self", pn] qual scope f (.ref cda) cc A outer s H E) (.Constant (.str m) j0 p5) (tC (.str m)) := pe_str
    refine ⟨a, _, _, rfl, ha, hpe, pss_one (ps_ost (pvS (i := 0) rfl (S.par _ (by simp)) (by decide) (by decide)) (pe_callTy call_list_of hls hlist (by decide +kernel) (pa_cons (pvS (i := 1) rfl (S.par _ (by simp)) hpn.1 hpn.2) pa_nil) (by decide) (by decide)) (hsw2 _)), ha, ?_⟩
    unfold mkL at em
    split at em
    · rename_i us eu
      cases em
      have key : ∃ p ys, xs = [.ref p] ∧ (SqL G.K H p ys ∨ SqT G.K H p ys) ∧ RUs G.K μ h.length H us ys := by
        split at eu
        · rename_i i
          obtain ⟨v, rfl, r⟩ := rus1 rs
          simp only [RU] at r
          obtain ⟨_, rfl⟩ := r
          obtain ⟨ys, sq, rr⟩ := rd_ok rel eu
          exact ⟨_, ys, rfl, .inl sq, rr⟩
        · rename_i us'
          cases eu
          obtain ⟨v, rfl, r⟩ := rus1 rs
          simp only [RU] at r
          obtain ⟨b, ys, rfl, st, rr⟩ := r
          exact ⟨_, ys, rfl, .inr st, rr⟩
        · cases eu
      obtain ⟨p, ys, rfl, sq, rr⟩ := key
      refine ⟨.ref p, rfl, p, ys, rfl, sq, fun l nl => ?_⟩
      have nal : a ≠ l := ne_of_none ha nl
      have ha' : upd H l (.lst ys) a = some (exo a (G.ca c) none) := by rw [upd_ne nal]; exact ha
      have gD := Gr.new (o := .lst ys) (c := .lst us) rel nl ⟨ys, upd_same, RUs.mono (fun i hi => nu_old hi) (Nat.le_succ _) (TS0.fresh nl) _ _ rr⟩
      have off' : ExcOff (nu μ h.length l) (h ++ [.lst us]) a := fun i k fs e => by
        by_cases hi : i < h.length
        · rw [List.getElem?_append_left hi] at e
          rw [nu_old hi]
          exact off i k fs e
        · have h1 := (List.getElem?_eq_some_iff.mp e).1
          have h2 : i = h.length := by simp at h1; omega
          subst h2
          simp at e
      refine ⟨.ref a, rfl, a, G.ca c, rfl, T.ox, hfn, .inl ⟨ha', fun dx nd da => ?_⟩⟩
      exact q _ (upd H l (.lst ys)) dx [(fn, .ref l)] gD ha' off' nd da (fun b z => by
        by_cases hb : b = l
        · rw [hb, upd_same]; simp
        · rw [upd_ne hb]; exact z) (rf1 (by simp only [RU]; exact ⟨by simp, by rw [nu_new]⟩))
    · cases em
end
end ML

set_option maxHeartbeats 4000000
/-! from the function of the law's top to the promise -/
namespace ML
open PySem L2
def spLaw (K : PySem.W.Frag) : Sp := fun vs H Q _ => ∃ (a : Addr) (ns : List Int), vs = [.ref a] ∧ SqL K H a (ns.map V.int) ∧ ns.length ≤ 63 ∧ ∀ H', Q (.bl true) H'
theorem rus_ints {K : PySem.W.Frag} {μ : Nat → Addr} {n : Nat} {H : Hp} : ∀ ns : List Int, RUs K μ n H (ns.map U.int) (ns.map V.int)
  | [] => RUs.nil
  | n :: ns => RUs.cons (by simp only [RU]) (rus_ints ns)
theorem one_cell {G : Gm} {H : Hp} {a : Addr} {c : Cell} (r : RCell G (fun _ => a) 1 H a c) : HRel G (fun _ => a) [c] H := by
  refine ⟨fun i d e => ?_, fun i j d1 d2 e1 e2 _ _ _ => ?_⟩
  · have hi := (List.getElem?_eq_some_iff.mp e).1
    have hi : i = 0 := by simp at hi; exact hi
    subst hi
    cases e
    exact r
  · have hi := (List.getElem?_eq_some_iff.mp e1).1
    have hj := (List.getElem?_eq_some_iff.mp e2).1
    simp at hi hj
    omega
theorem law_to {P : Program} {w : World} {G : Gm} {mg : Str → Option Value} {base : Heap} {k : Nat} {f : Addr} {fd : FuncData} {x : Str} {m : MF} (F : FnM P w G mg base k f fd [x] m)
    (hm : ∀ (ns : List Int) (c : Cell), ns.length ≤ 63 → (c = .lst (ns.map U.int) ∨ c = .frz (ns.map U.int)) → ∃ h', m [.ref 0] [c] = some (.ok (.bl true) h')) : FnOk P w G.K mg base (L2.CX P w) k f fd [x] (spLaw G.K) :=
  FnOk.imp F fun vs H Q E ⟨a, ns, ev, sq, hl, q⟩ => by
    subst ev
    have fin : ∀ c, (c = .lst (ns.map U.int) ∨ c = .frz (ns.map U.int)) → RCell G (fun _ => a) 1 H a c → spM G [x].length m [.ref a] H Q E := fun c hc r => by
      obtain ⟨h', e⟩ := hm ns c hl hc
      refine ⟨fun _ => a, [c], [.ref 0], one_cell r, RUs.cons (by simp [RU]) RUs.nil, rfl, ?_⟩
      rw [e]
      intro μ' H' g v rv
      simp only [RU] at rv
      subst rv
      exact q H'
    rcases sq with (sq | ⟨o, sq⟩) | sq
    · exact fin _ (.inl rfl) ⟨_, sq, rus_ints ns⟩
    · exact fin _ (.inr rfl) ⟨_, .inl ⟨o, sq⟩, rus_ints ns⟩
    · exact fin _ (.inr rfl) ⟨_, .inr sq, rus_ints ns⟩
theorem law_walk {l : PySem.W.OpenLaw} {q : Program} {loose : List Str} {XP : (Str → Option Value) → Heap → Prop} {YP : World → Heap → Prop} {d : DefRec} {K : Params → PySem.W.Frag} {k : Nat} {x : Str} (hn : l.most = some 63) (hdf : d.params.defaults = []) (hk : Room k callerA)
    (hY : ∀ (w : World) (h : Heap), YP w h → (K w.params).In h)
    (F : ∀ (w : World) (mg : Str → Option Value) (fa : Addr) (h : Heap), (K w.params).In h → h.Ns mainGlobals mg → mg d.name = some (.ref fa) →
      ∃ fd : FuncData, (∀ (s : Shared) (u : Value), BindsTo s fd ⟨[u], []⟩ [(x, u)]) ∧ ∀ base : Heap, (K w.params).In base → base.Ns mainGlobals mg → FnOk l.prog w (K w.params) mg base (L2.CX l.prog w) k fa fd [x] (spLaw (K w.params))) :
    PySem.W.WalkO q loose XP YP l.row.toRowW d [] (fun f vs => PySem.call f vs) :=
  L2.walk_of (n := 63) (k := k) (x := x) (CX := fun w => L2.CX l.prog w) (sp := fun w => spLaw (K w.params)) hn (by decide) hdf hk hY F (fun _ _ a ns hl _ hS => ⟨a, ns, rfl, hS, hl, fun _ => rfl⟩)
    fun _ _ _ _ _ ⟨_, _, _, _, _, _, _, _, _, _, _, _, z⟩ => z
theorem mk1_ok {f : Str} : ∀ ws h r, mk1 f ws h = some r → True ∧ mk1 f ws h = some r := fun _ _ _ e => ⟨trivial, e⟩
theorem mk2_ok {f g : Str} : ∀ ws h r, mk2 f g ws h = some r → True ∧ mk2 f g ws h = some r := fun _ _ _ e => ⟨trivial, e⟩
theorem mk2s_ok {f g : Str} : ∀ ws h r, mk2s f g ws h = some r → (∃ s, ws[0]? = some (.str s) ∧ s.length ≤ LIM) ∧ mk2 f g ws h = some r := fun ws h r e => by
  unfold mk2s at e
  split at e
  · rename_i s u
    split at e
    · rename_i hl
      exact ⟨⟨s, rfl, hl⟩, e⟩
    · cases e
  · cases e
theorem mk2t_ok {f g : Str} : ∀ ws h r, mk2t f g ws h = some r → (∃ s, ws[1]? = some (.str s) ∧ s.length ≤ LIM) ∧ mk2 f g ws h = some r := fun ws h r e => by
  unfold mk2t at e
  split at e
  · rename_i w s
    split at e
    · rename_i hl
      exact ⟨⟨s, rfl, hl⟩, e⟩
    · cases e
  · cases e
theorem binds1 {K : PySem.W.Frag} {fd : FuncData} {x y : Str} (h : ∀ a b, bindArgs fd ⟨[a, b], []⟩ = pure [(x, a), (y, b)]) : Binds K fd [x, y] [] := fun s us _ hl => by
  match us, hl with
  | [a, b], _ => exact BindsTo.of_eq (h a b)
theorem binds2 {K : PySem.W.Frag} {fd : FuncData} {x y z : Str} (h : ∀ a b c, bindArgs fd ⟨[a, b, c], []⟩ = pure [(x, a), (y, b), (z, c)]) : Binds K fd [x, y, z] [] := fun s us _ hl => by
  match us, hl with
  | [a, b, c], _ => exact BindsTo.of_eq (h a b c)
theorem exm_of {K : PySem.W.Frag} {S T : Addr} {b : Bool} (h1 : PySem.W.subIn K (.ref S) (.type "BaseException") = some true) (h2 : PySem.W.isClsIn K S = true) (h3 : PySem.W.typeIn K (.ref S) = some (.type "type")) (h4 : PySem.W.subIn K (.ref T) (.ref S) = some b) :
    PySem.W.exmOne K (.ref T) (.ref S) = some b := by
  have h2' : (PySem.W.clsIn K S).isSome = true := h2
  unfold PySem.W.exmOne PySem.W.kitCls
  rw [h1, if_pos (by rfl)]
  simp only
  rw [h2', h3, if_pos (by rfl)]
  exact h4
theorem kit_of {K : PySem.W.Frag} {S T : Addr} {b : Bool} (h2 : PySem.W.isClsIn K S = true) (h3 : PySem.W.typeIn K (.ref S) = some (.type "type")) (h4 : PySem.W.subIn K (.ref T) (.ref S) = some b) (h5 : PySem.W.mroIn K S (.ref S) = some true) :
    PySem.W.kitOne K (.ref T) (.ref S) = some b := by
  have h2' : (PySem.W.clsIn K S).isSome = true := h2
  unfold PySem.W.kitOne
  split
  · rename_i e
    have e := eq_of_beq e
    cases e
    have h4 : PySem.W.mroIn K S (.ref S) = some b := h4
    rw [← h4, h5]
  · unfold PySem.W.kitCls
    simp only
    rw [h2', h3, if_pos (by rfl)]
    exact h4
theorem sup_of {K : PySem.W.Frag} {C D : Addr} {name nm q nm' q' : Str} {N N' : Addr} {bs bs' bm' : List Value} {sn sn' : List Str} {sub sub' : List Value} {ab ab' : Bool} {col col' : Option Bool} {dd dd' : Option Addr} {m0 m1 m2 m3 m5 m0' m1' m2' m3' m5' : Option Value} {w w' : String} {r : Option Value}
    (x : K.lookup C = some (excClassObj nm q C N bs (.ref D :: bm') true sn sub ab col dd m0 m1 m2 m3 m5 w)) (y : K.lookup D = some (excClassObj nm' q' D N' bs' bm' true sn' sub' ab' col' dd' m0' m1' m2' m3' m5' w'))
    (f : PySem.W.findIn K (.ref D) name = some r) : PySem.W.ks_superIn K C C name = some r := by
  unfold PySem.W.ks_superIn PySem.W.clsIn
  unfold PySem.W.findIn at f
  rw [x]
  simp only [excClassObj] at y f ⊢
  rw [y] at f
  simp only at f
  simp only [Option.bind_some]
  have : (Value.ref C != Value.ref C) = false := by simp
  rw [List.dropWhile_cons, this]
  exact f
theorem cls_of {K : PySem.W.Frag} {S : Addr} (h : PySem.W.isClsIn K S = true) : (PySem.W.clsIn K S).isSome = true := h
theorem kit_b {K : PySem.W.Frag} {C : Addr} {T : String} {b : Bool} (hT : PySem.W.kitMeta T = true) (h : PySem.W.subIn K (.ref C) (.type T) = some b) : PySem.W.kitOne K (.ref C) (.type T) = some b := by
  unfold PySem.W.kitOne
  split
  · rename_i e
    have e := eq_of_beq e
    cases e
  · unfold PySem.W.kitCls
    simp only
    rw [if_pos hT]
    exact h
end ML

set_option maxHeartbeats 4000000
/-! tables of own errors, built row by row -/
namespace ML
open PySem L2
section
variable {G : Gm} {f : Str} {a b c : Nat} {cv : Value} {t : Nat → Option Bool} {k : Bool}
def AtE (G : Gm) (f : Str) (a : Nat) : Prop := ExcK G.K (G.ca a) ∧ PySem.W.findIn G.K (.ref (G.ca a)) f = some none
theorem atx0 : AtX G f (fun _ => false) (fun _ => false) := ⟨fun c hc => (nomatch hc), fun c hc => (nomatch hc)⟩
theorem atx1 (h : AtE G f a) : AtX G f (fun _ => false) (fun c => decide (c = a)) := ⟨fun c hc => (nomatch hc), fun c hc => by rw [of_decide_eq_true hc]; exact h⟩
theorem atxN {e : Nat → Bool} (h : AtX G f (fun _ => false) e) (q : AtE G f a) : AtX G f (fun _ => false) (fun c => e c || decide (c = a)) := ⟨fun c hc => (nomatch hc), fun c hc => by
  rcases Bool.or_eq_true_iff.mp hc with hc | hc
  · exact h.exc c hc
  · rw [of_decide_eq_true hc]; exact q⟩
theorem tak_nil : TakC G (fun _ => none) cv := fun k b h => (nomatch h)
theorem tak_cons (h : PySem.W.exmOne G.K (.ref (G.ca a)) cv = some k) (q : TakC G t cv) : TakC G (fun c => if c = a then some k else t c) cv := fun c b e => by
  have e : (if c = a then some k else t c) = some b := e
  by_cases hc : c = a
  · subst hc
    rw [if_pos rfl] at e
    cases e
    exact h
  · rw [if_neg hc] at e
    exact q c b e
def tabX (t : Nat → Option Bool) : TyK → Option Bool
  | .exc c => t c
  | _ => none
/-- what the table says is so -/
def KitT (G : Gm) (t : Nat → Option Bool) (u : Value) : Prop := ∀ c b, t c = some b → PySem.W.kitOne G.K (.ref (G.ca c)) u = some b ∧ ExcK G.K (G.ca c)
theorem kit_nil : KitT G (fun _ => none) cv := fun k b h => (nomatch h)
theorem kit_cons (h : PySem.W.kitOne G.K (.ref (G.ca a)) cv = some k) (e : ExcK G.K (G.ca a)) (q : KitT G t cv) : KitT G (fun c => if c = a then some k else t c) cv := fun c b z => by
  have z : (if c = a then some k else t c) = some b := z
  by_cases hc : c = a
  · subst hc
    rw [if_pos rfl] at z
    cases z
    exact ⟨h, e⟩
  · rw [if_neg hc] at z
    exact q c b z
theorem isi_tab {v : V} (cl : ClsV v cv) (q : KitT G t cv) : IsiC G (tabX t) v cv := ⟨cl, fun k b h => by
  cases k with
  | exc c => exact (q c b h).1
  | _ => (cases h), fun c b h => (nomatch h), fun c b h => (q c b h).2⟩
end
end ML

set_option maxHeartbeats 4000000
namespace K83
open PySem L2 ML
def topS (i : Nat) : Stmt := PySem.Challenge.pw_laterways_k83_kinds_of_errors.main.body.getD i (.Pass ⟨0, 0, 0, 0⟩)
def tk_CalendarError : Nat → Option Bool := fun c => if c = 1 then some true else if c = 2 then some true else if c = 3 then some true else if c = 4 then some true else if c = 5 then some true else if c = 6 then some true else if c = 7 then some true else if c = 8 then some true else if c = 9 then some true else if c = 10 then some true else if c = 11 then some true else if c = 12 then some true else none
def tk_BadName : Nat → Option Bool := fun c => if c = 1 then some true else if c = 2 then some false else if c = 3 then some false else if c = 4 then some false else if c = 5 then some false else if c = 6 then some false else if c = 7 then some false else if c = 8 then some false else if c = 9 then some false else if c = 10 then some false else if c = 11 then some false else if c = 12 then some false else none
def tk_BadNumber : Nat → Option Bool := fun c => if c = 1 then some false else if c = 2 then some true else if c = 3 then some false else if c = 4 then some false else if c = 5 then some false else if c = 6 then some false else if c = 7 then some false else if c = 8 then some false else if c = 9 then some false else if c = 10 then some false else if c = 11 then some false else if c = 12 then some false else none
def tk_BadRows : Nat → Option Bool := fun c => if c = 1 then some false else if c = 2 then some false else if c = 3 then some true else if c = 4 then some false else if c = 5 then some false else if c = 6 then some false else if c = 7 then some false else if c = 8 then some false else if c = 9 then some false else if c = 10 then some false else if c = 11 then some false else if c = 12 then some false else none
def tk_BadWay : Nat → Option Bool := fun c => if c = 1 then some false else if c = 2 then some false else if c = 3 then some false else if c = 4 then some true else if c = 5 then some false else if c = 6 then some false else if c = 7 then some false else if c = 8 then some false else if c = 9 then some false else if c = 10 then some false else if c = 11 then some false else if c = 12 then some false else none
def tk_BadRing : Nat → Option Bool := fun c => if c = 1 then some false else if c = 2 then some false else if c = 3 then some false else if c = 4 then some false else if c = 5 then some true else if c = 6 then some false else if c = 7 then some false else if c = 8 then some false else if c = 9 then some false else if c = 10 then some false else if c = 11 then some false else if c = 12 then some false else none
def tk_BadPaper : Nat → Option Bool := fun c => if c = 1 then some false else if c = 2 then some false else if c = 3 then some false else if c = 4 then some false else if c = 5 then some false else if c = 6 then some true else if c = 7 then some false else if c = 8 then some false else if c = 9 then some false else if c = 10 then some false else if c = 11 then some false else if c = 12 then some false else none
def tk_BadRides : Nat → Option Bool := fun c => if c = 1 then some false else if c = 2 then some false else if c = 3 then some false else if c = 4 then some false else if c = 5 then some false else if c = 6 then some false else if c = 7 then some true else if c = 8 then some false else if c = 9 then some false else if c = 10 then some false else if c = 11 then some false else if c = 12 then some false else none
def tk_BadText : Nat → Option Bool := fun c => if c = 1 then some false else if c = 2 then some false else if c = 3 then some false else if c = 4 then some false else if c = 5 then some false else if c = 6 then some false else if c = 7 then some false else if c = 8 then some true else if c = 9 then some false else if c = 10 then some false else if c = 11 then some false else if c = 12 then some false else none
def tk_BadDeed : Nat → Option Bool := fun c => if c = 1 then some false else if c = 2 then some false else if c = 3 then some false else if c = 4 then some false else if c = 5 then some false else if c = 6 then some false else if c = 7 then some false else if c = 8 then some false else if c = 9 then some true else if c = 10 then some false else if c = 11 then some false else if c = 12 then some false else none
def tk_TooMany : Nat → Option Bool := fun c => if c = 1 then some false else if c = 2 then some false else if c = 3 then some false else if c = 4 then some false else if c = 5 then some false else if c = 6 then some false else if c = 7 then some false else if c = 8 then some false else if c = 9 then some false else if c = 10 then some true else if c = 11 then some false else if c = 12 then some false else none
def tk_NotKept : Nat → Option Bool := fun c => if c = 1 then some false else if c = 2 then some false else if c = 3 then some false else if c = 4 then some false else if c = 5 then some false else if c = 6 then some false else if c = 7 then some false else if c = 8 then some false else if c = 9 then some false else if c = 10 then some false else if c = 11 then some true else if c = 12 then some false else none
def tk_NothingToUndo : Nat → Option Bool := fun c => if c = 1 then some false else if c = 2 then some false else if c = 3 then some false else if c = 4 then some false else if c = 5 then some false else if c = 6 then some false else if c = 7 then some false else if c = 8 then some false else if c = 9 then some false else if c = 10 then some false else if c = 11 then some false else if c = 12 then some true else none
def tab_BadDeed : TyK → Option Bool := tabX tk_BadDeed
def tab_BadName : TyK → Option Bool := tabX tk_BadName
def tab_BadNumber : TyK → Option Bool := tabX tk_BadNumber
def tab_BadPaper : TyK → Option Bool := tabX tk_BadPaper
def tab_BadRides : TyK → Option Bool := tabX tk_BadRides
def tab_BadRing : TyK → Option Bool := tabX tk_BadRing
def tab_BadRows : TyK → Option Bool := tabX tk_BadRows
def tab_BadText : TyK → Option Bool := tabX tk_BadText
def tab_BadWay : TyK → Option Bool := tabX tk_BadWay
def tab_CalendarError : TyK → Option Bool := tabX tk_CalendarError
def tab_NotKept : TyK → Option Bool := tabX tk_NotKept
def tab_NothingToUndo : TyK → Option Bool := tabX tk_NothingToUndo
def tab_TooMany : TyK → Option Bool := tabX tk_TooMany
def tab_ValueError : TyK → Option Bool := tabX fun c => if c = 1 then some true else if c = 2 then some true else if c = 3 then some true else if c = 4 then some true else if c = 5 then some true else if c = 6 then some true else if c = 7 then some true else if c = 8 then some true else if c = 9 then some true else if c = 10 then some true else if c = 11 then some true else if c = 12 then some true else none
def at_end_i : Nat → Bool := fun _ => false
def at_end_e : Nat → Bool := fun c => decide (c = 4)
def at_limit_i : Nat → Bool := fun _ => false
def at_limit_e : Nat → Bool := fun c => decide (c = 10)
def at_line_i : Nat → Bool := fun _ => false
def at_line_e : Nat → Bool := fun c => decide (c = 8)
def at_name_i : Nat → Bool := fun _ => false
def at_name_e : Nat → Bool := fun c => decide (c = 1)
def at_names_i : Nat → Bool := fun _ => false
def at_names_e : Nat → Bool := fun c => decide (c = 5)
def at_place_i : Nat → Bool := fun _ => false
def at_place_e : Nat → Bool := fun c => decide (c = 3) || decide (c = 7) || decide (c = 9)
def at_reason_i : Nat → Bool := fun _ => false
def at_reason_e : Nat → Bool := fun c => decide (c = 6)
def at_row_i : Nat → Bool := fun _ => false
def at_row_e : Nat → Bool := fun c => decide (c = 6)
def at_start_i : Nat → Bool := fun _ => false
def at_start_e : Nat → Bool := fun c => decide (c = 4)
def at_value_i : Nat → Bool := fun _ => false
def at_value_e : Nat → Bool := fun c => decide (c = 2)
def at_what_i : Nat → Bool := fun _ => false
def at_what_e : Nat → Bool := fun c => decide (c = 2)
structure Fx (G : Gm) (mg : Str → Option Value) : Prop where
  b_ValueError : mg "ValueError" = none
  b_abs : mg "abs" = none
  b_int : mg "int" = none
  b_isinstance : mg "isinstance" = none
  b_len : mg "len" = none
  b_list : mg "list" = none
  b_range : mg "range" = none
  a_end : AtX G "end" at_end_i at_end_e
  a_limit : AtX G "limit" at_limit_i at_limit_e
  a_line : AtX G "line" at_line_i at_line_e
  a_name : AtX G "name" at_name_i at_name_e
  a_names : AtX G "names" at_names_i at_names_e
  a_place : AtX G "place" at_place_i at_place_e
  a_reason : AtX G "reason" at_reason_i at_reason_e
  a_row : AtX G "row" at_row_i at_row_e
  a_start : AtX G "start" at_start_i at_start_e
  a_value : AtX G "value" at_value_i at_value_e
  a_what : AtX G "what" at_what_i at_what_e
  o_BadDeed : OwnK G mg "BadDeed" tab_BadDeed
  o_BadName : OwnK G mg "BadName" tab_BadName
  o_BadNumber : OwnK G mg "BadNumber" tab_BadNumber
  o_BadPaper : OwnK G mg "BadPaper" tab_BadPaper
  o_BadRides : OwnK G mg "BadRides" tab_BadRides
  o_BadRing : OwnK G mg "BadRing" tab_BadRing
  o_BadRows : OwnK G mg "BadRows" tab_BadRows
  o_BadText : OwnK G mg "BadText" tab_BadText
  o_BadWay : OwnK G mg "BadWay" tab_BadWay
  o_CalendarError : OwnK G mg "CalendarError" tab_CalendarError
  o_NotKept : OwnK G mg "NotKept" tab_NotKept
  o_NothingToUndo : OwnK G mg "NothingToUndo" tab_NothingToUndo
  o_TooMany : OwnK G mg "TooMany" tab_TooMany
  v_ValueError : IsiC G tab_ValueError (.ty "ValueError") (.type "ValueError")
  t_CalendarError : TakC G tk_CalendarError (.ref (G.ca 0))
  g_CalendarError : mg "CalendarError" = some (.ref (G.ca 0))
  t_BadName : TakC G tk_BadName (.ref (G.ca 1))
  g_BadName : mg "BadName" = some (.ref (G.ca 1))
  t_BadNumber : TakC G tk_BadNumber (.ref (G.ca 2))
  g_BadNumber : mg "BadNumber" = some (.ref (G.ca 2))
  t_BadRows : TakC G tk_BadRows (.ref (G.ca 3))
  g_BadRows : mg "BadRows" = some (.ref (G.ca 3))
  t_BadWay : TakC G tk_BadWay (.ref (G.ca 4))
  g_BadWay : mg "BadWay" = some (.ref (G.ca 4))
  t_BadRing : TakC G tk_BadRing (.ref (G.ca 5))
  g_BadRing : mg "BadRing" = some (.ref (G.ca 5))
  t_BadPaper : TakC G tk_BadPaper (.ref (G.ca 6))
  g_BadPaper : mg "BadPaper" = some (.ref (G.ca 6))
  t_BadRides : TakC G tk_BadRides (.ref (G.ca 7))
  g_BadRides : mg "BadRides" = some (.ref (G.ca 7))
  t_BadText : TakC G tk_BadText (.ref (G.ca 8))
  g_BadText : mg "BadText" = some (.ref (G.ca 8))
  t_BadDeed : TakC G tk_BadDeed (.ref (G.ca 9))
  g_BadDeed : mg "BadDeed" = some (.ref (G.ca 9))
  t_TooMany : TakC G tk_TooMany (.ref (G.ca 10))
  g_TooMany : mg "TooMany" = some (.ref (G.ca 10))
  t_NotKept : TakC G tk_NotKept (.ref (G.ca 11))
  g_NotKept : mg "NotKept" = some (.ref (G.ca 11))
  t_NothingToUndo : TakC G tk_NothingToUndo (.ref (G.ca 12))
  g_NothingToUndo : mg "NothingToUndo" = some (.ref (G.ca 12))
section
variable {P : Program} {w : World} {G : Gm} {mg : Str → Option Value} {base : Heap} {f : Addr} {fd : FuncData}
abbrev t__law_start : Stmt := topS 15
theorem sc__law_start : FnScope ["_law_script", "_law_first"] ["_law_script"] (defScope t__law_start) := ⟨rfl, rfl, rfl, by decide +kernel, rfl, by decide +kernel, by decide +kernel⟩
noncomputable def b__law_start : MS :=
    (mSeq (mSet 1 (mC (.int 0)))
    (mSeq (mIf (mB (mOp oGt (mCB fLen (mCons (mVar 0) mNil)) (mC (.int 0))))
    (mSet 1 (mOp oIx (mVar 0) (mC (.int 0))))
    mSkip)
    (mRet (mLst (mCons (mCB fAbs (mCons (mCB fIntA2 (mCons (mVar 1) mNil)) mNil)) (mCons (mCB fIntA2 (mCons (mOp oGe (mCB fAbs (mCons (mCB fIntA2 (mCons (mVar 1) mNil)) mNil)) (mOp oPow (mC (.int 10)) (mC (.int 18)))) mNil)) (mCons (mC (.int 1)) (mCons (mC (.int 0)) mNil))))))))
noncomputable def m__law_start : MF := mfun 1 2 b__law_start
theorem ok__law_start (fx : Fx G mg) (F : Fun G.K "_law_start" "_law_start" t__law_start f fd) : FnM P w G mg base 1 f fd ["_law_script"] m__law_start :=
  fn_M (k := 0) F sc__law_start fun cdv A outer s H E hr tk => by
  exact (dSeq (dSet dInt sc__law_start.nd (by kernel_rfl) (by kernel_rfl) (by kernel_rfl) (Or.inl rfl))
    (dSeq (dIf (qGt (dB (cLen rfl) fLen_ok fx.b_len (by kernel_rfl) (by kernel_rfl) (dCons (dVar 0 (by kernel_rfl) (by kernel_rfl) (by kernel_rfl) (by kernel_rfl)) dNil (by kernel_rfl)) (by decide +kernel) (by kernel_rfl) ⟨(by kernel_rfl), (by kernel_rfl)⟩) dInt)
    (dOne (dSet (dIx rfl (dVar 0 (by kernel_rfl) (by kernel_rfl) (by kernel_rfl) (by kernel_rfl)) dInt (fun _ _ => rfl)) sc__law_start.nd (by kernel_rfl) (by kernel_rfl) (by kernel_rfl) (Or.inl rfl)))
    dSkip)
    (dOne (dRet (dLst (dCons (dB cAbs fAbs_ok fx.b_abs (by kernel_rfl) (by kernel_rfl) (dCons (dTy cInt fIntA_ok fx.b_int (by kernel_rfl) (by kernel_rfl) (dCons (dVar 1 (by kernel_rfl) (by kernel_rfl) (by kernel_rfl) (by kernel_rfl)) dNil (by kernel_rfl)) (by decide +kernel) (by kernel_rfl) ⟨(by kernel_rfl), (by kernel_rfl)⟩) dNil (by kernel_rfl)) (by decide +kernel) (by kernel_rfl) ⟨(by kernel_rfl), (by kernel_rfl)⟩) (dCons (dTy cInt fIntA_ok fx.b_int (by kernel_rfl) (by kernel_rfl) (dCons (dGe (dB cAbs fAbs_ok fx.b_abs (by kernel_rfl) (by kernel_rfl) (dCons (dTy cInt fIntA_ok fx.b_int (by kernel_rfl) (by kernel_rfl) (dCons (dVar 1 (by kernel_rfl) (by kernel_rfl) (by kernel_rfl) (by kernel_rfl)) dNil (by kernel_rfl)) (by decide +kernel) (by kernel_rfl) ⟨(by kernel_rfl), (by kernel_rfl)⟩) dNil (by kernel_rfl)) (by decide +kernel) (by kernel_rfl) ⟨(by kernel_rfl), (by kernel_rfl)⟩) (dPow dInt dInt)) dNil (by kernel_rfl)) (by decide +kernel) (by kernel_rfl) ⟨(by kernel_rfl), (by kernel_rfl)⟩) (dCons dInt (dCons dInt dNil (by kernel_rfl)) (by kernel_rfl)) (by kernel_rfl)) (by kernel_rfl)))))))
abbrev t__law_draw : Stmt := topS 16
theorem sc__law_draw : FnScope ["_law_script", "_law_state", "_law_limit", "_law_number", "_law_cell", "_law_mixed"] ["_law_script", "_law_state", "_law_limit"] (defScope t__law_draw) := ⟨rfl, rfl, rfl, by decide +kernel, rfl, by decide +kernel, by decide +kernel⟩
noncomputable def b__law_draw : MS :=
    (mSeq (mSetIx (mOp oAdd (mOp oIx (mVar 1) (mC (.int 3))) (mC (.int 1))) (mVar 1) (mC (.int 3)))
    (mSeq (mIf (mTAnd (mB (mOp (oEq 3) (mOp oIx (mVar 1) (mC (.int 1))) (mC (.int 1)))) (mB (mOp oGt (mOp oIx (mVar 1) (mC (.int 0))) (mC (.int 0)))))
    (mSeq (mSet 3 (mOp oMod (mCB fIntA2 (mCons (mOp oIx (mVar 1) (mC (.int 0))) mNil)) (mVar 2)))
    (mSeq (mSetIx (mOp oDiv (mOp oIx (mVar 1) (mC (.int 0))) (mVar 2)) (mVar 1) (mC (.int 0)))
    (mRet (mVar 3))))
    mSkip)
    (mSeq (mSetIx (mC (.int 0)) (mVar 1) (mC (.int 1)))
    (mSeq (mSet 4 (mC (.int 0)))
    (mSeq (mIf (mB (mOp oGt (mCB fLen (mCons (mVar 0) mNil)) (mC (.int 0))))
    (mSet 4 (mOp oIx (mVar 0) (mOp oMod (mCB fIntA2 (mCons (mOp oIx (mVar 1) (mC (.int 2))) mNil)) (mCB fLen (mCons (mVar 0) mNil)))))
    mSkip)
    (mSeq (mSetIx (mOp oAdd (mOp oIx (mVar 1) (mC (.int 2))) (mC (.int 1))) (mVar 1) (mC (.int 2)))
    (mSeq (mSet 5 (mOp oMulA (mOp oMod (mCB fIntA2 (mCons (mOp oIx (mVar 1) (mC (.int 0))) mNil)) (mC (.int 2147483647))) (mC (.int 48271))))
    (mSeq (mSet 5 (mOp oAdd (mOp oAdd (mOp oAdd (mVar 5) (mOp oMod (mCB fIntA2 (mCons (mVar 4) mNil)) (mC (.int 2147483629)))) (mOp oMulA (mC (.int 7)) (mOp oIx (mVar 1) (mC (.int 3))))) (mC (.int 11))))
    (mSeq (mSetIx (mOp oMod (mCB fIntA2 (mCons (mVar 5) mNil)) (mC (.int 2147483647))) (mVar 1) (mC (.int 0)))
    (mSeq (mSet 5 (mOp oMod (mCB fIntA2 (mCons (mOp oAdd (mOp oMulA (mOp oIx (mVar 1) (mC (.int 0))) (mC (.int 69621))) (mOp oIx (mVar 1) (mC (.int 3)))) mNil)) (mC (.int 2147483629))))
    (mRet (mOp oMod (mCB fIntA2 (mCons (mOp oDiv (mVar 5) (mC (.int 13))) mNil)) (mVar 2)))))))))))))
noncomputable def m__law_draw : MF := mfun 3 6 b__law_draw
theorem ok__law_draw (fx : Fx G mg) (F : Fun G.K "_law_draw" "_law_draw" t__law_draw f fd) : FnM P w G mg base 1 f fd ["_law_script", "_law_state", "_law_limit"] m__law_draw :=
  fn_M (k := 0) F sc__law_draw fun cdv A outer s H E hr tk => by
  exact (dSeq (dSetIx (dAdd rfl (dIx rfl (dVar 1 (by kernel_rfl) (by kernel_rfl) (by kernel_rfl) (by kernel_rfl)) dInt (fun _ _ => rfl)) dInt) (dVar 1 (by kernel_rfl) (by kernel_rfl) (by kernel_rfl) (by kernel_rfl)) dInt (by kernel_rfl) (by kernel_rfl) (fun _ => rfl) rfl)
    (dSeq (dIf (qAnd' (qEq 3 rfl (units64 hr) (dIx rfl (dVar 1 (by kernel_rfl) (by kernel_rfl) (by kernel_rfl) (by kernel_rfl)) dInt (fun _ _ => rfl)) dInt) (qAnd1 (qGt (dIx rfl (dVar 1 (by kernel_rfl) (by kernel_rfl) (by kernel_rfl) (by kernel_rfl)) dInt (fun _ _ => rfl)) dInt)))
    (dSeq (dSet (dMod (dTy cInt fIntA_ok fx.b_int (by kernel_rfl) (by kernel_rfl) (dCons (dIx rfl (dVar 1 (by kernel_rfl) (by kernel_rfl) (by kernel_rfl) (by kernel_rfl)) dInt (fun _ _ => rfl)) dNil (by kernel_rfl)) (by decide +kernel) (by kernel_rfl) ⟨(by kernel_rfl), (by kernel_rfl)⟩) (dVar 2 (by kernel_rfl) (by kernel_rfl) (by kernel_rfl) (by kernel_rfl))) sc__law_draw.nd (by kernel_rfl) (by kernel_rfl) (by kernel_rfl) (Or.inl rfl))
    (dSeq (dSetIx (dDiv (dIx rfl (dVar 1 (by kernel_rfl) (by kernel_rfl) (by kernel_rfl) (by kernel_rfl)) dInt (fun _ _ => rfl)) (dVar 2 (by kernel_rfl) (by kernel_rfl) (by kernel_rfl) (by kernel_rfl))) (dVar 1 (by kernel_rfl) (by kernel_rfl) (by kernel_rfl) (by kernel_rfl)) dInt (by kernel_rfl) (by kernel_rfl) (fun _ => rfl) rfl)
    (dOne (dRet (dVar 3 (by kernel_rfl) (by kernel_rfl) (by kernel_rfl) (by kernel_rfl))))))
    dSkip)
    (dSeq (dSetIx dInt (dVar 1 (by kernel_rfl) (by kernel_rfl) (by kernel_rfl) (by kernel_rfl)) dInt (by kernel_rfl) (by kernel_rfl) (fun _ => rfl) rfl)
    (dSeq (dSet dInt sc__law_draw.nd (by kernel_rfl) (by kernel_rfl) (by kernel_rfl) (Or.inl rfl))
    (dSeq (dIf (qGt (dB (cLen rfl) fLen_ok fx.b_len (by kernel_rfl) (by kernel_rfl) (dCons (dVar 0 (by kernel_rfl) (by kernel_rfl) (by kernel_rfl) (by kernel_rfl)) dNil (by kernel_rfl)) (by decide +kernel) (by kernel_rfl) ⟨(by kernel_rfl), (by kernel_rfl)⟩) dInt)
    (dOne (dSet (dIx rfl (dVar 0 (by kernel_rfl) (by kernel_rfl) (by kernel_rfl) (by kernel_rfl)) (dMod (dTy cInt fIntA_ok fx.b_int (by kernel_rfl) (by kernel_rfl) (dCons (dIx rfl (dVar 1 (by kernel_rfl) (by kernel_rfl) (by kernel_rfl) (by kernel_rfl)) dInt (fun _ _ => rfl)) dNil (by kernel_rfl)) (by decide +kernel) (by kernel_rfl) ⟨(by kernel_rfl), (by kernel_rfl)⟩) (dB (cLen rfl) fLen_ok fx.b_len (by kernel_rfl) (by kernel_rfl) (dCons (dVar 0 (by kernel_rfl) (by kernel_rfl) (by kernel_rfl) (by kernel_rfl)) dNil (by kernel_rfl)) (by decide +kernel) (by kernel_rfl) ⟨(by kernel_rfl), (by kernel_rfl)⟩)) (fun _ _ => rfl)) sc__law_draw.nd (by kernel_rfl) (by kernel_rfl) (by kernel_rfl) (Or.inl rfl)))
    dSkip)
    (dSeq (dSetIx (dAdd rfl (dIx rfl (dVar 1 (by kernel_rfl) (by kernel_rfl) (by kernel_rfl) (by kernel_rfl)) dInt (fun _ _ => rfl)) dInt) (dVar 1 (by kernel_rfl) (by kernel_rfl) (by kernel_rfl) (by kernel_rfl)) dInt (by kernel_rfl) (by kernel_rfl) (fun _ => rfl) rfl)
    (dSeq (dSet (dMul (dMod (dTy cInt fIntA_ok fx.b_int (by kernel_rfl) (by kernel_rfl) (dCons (dIx rfl (dVar 1 (by kernel_rfl) (by kernel_rfl) (by kernel_rfl) (by kernel_rfl)) dInt (fun _ _ => rfl)) dNil (by kernel_rfl)) (by decide +kernel) (by kernel_rfl) ⟨(by kernel_rfl), (by kernel_rfl)⟩) dInt) dInt) sc__law_draw.nd (by kernel_rfl) (by kernel_rfl) (by kernel_rfl) (Or.inl rfl))
    (dSeq (dSet (dAdd rfl (dAdd rfl (dAdd rfl (dVar 5 (by kernel_rfl) (by kernel_rfl) (by kernel_rfl) (by kernel_rfl)) (dMod (dTy cInt fIntA_ok fx.b_int (by kernel_rfl) (by kernel_rfl) (dCons (dVar 4 (by kernel_rfl) (by kernel_rfl) (by kernel_rfl) (by kernel_rfl)) dNil (by kernel_rfl)) (by decide +kernel) (by kernel_rfl) ⟨(by kernel_rfl), (by kernel_rfl)⟩) dInt)) (dMul dInt (dIx rfl (dVar 1 (by kernel_rfl) (by kernel_rfl) (by kernel_rfl) (by kernel_rfl)) dInt (fun _ _ => rfl)))) dInt) sc__law_draw.nd (by kernel_rfl) (by kernel_rfl) (by kernel_rfl) (Or.inl rfl))
    (dSeq (dSetIx (dMod (dTy cInt fIntA_ok fx.b_int (by kernel_rfl) (by kernel_rfl) (dCons (dVar 5 (by kernel_rfl) (by kernel_rfl) (by kernel_rfl) (by kernel_rfl)) dNil (by kernel_rfl)) (by decide +kernel) (by kernel_rfl) ⟨(by kernel_rfl), (by kernel_rfl)⟩) dInt) (dVar 1 (by kernel_rfl) (by kernel_rfl) (by kernel_rfl) (by kernel_rfl)) dInt (by kernel_rfl) (by kernel_rfl) (fun _ => rfl) rfl)
    (dSeq (dSet (dMod (dTy cInt fIntA_ok fx.b_int (by kernel_rfl) (by kernel_rfl) (dCons (dAdd rfl (dMul (dIx rfl (dVar 1 (by kernel_rfl) (by kernel_rfl) (by kernel_rfl) (by kernel_rfl)) dInt (fun _ _ => rfl)) dInt) (dIx rfl (dVar 1 (by kernel_rfl) (by kernel_rfl) (by kernel_rfl) (by kernel_rfl)) dInt (fun _ _ => rfl))) dNil (by kernel_rfl)) (by decide +kernel) (by kernel_rfl) ⟨(by kernel_rfl), (by kernel_rfl)⟩) dInt) sc__law_draw.nd (by kernel_rfl) (by kernel_rfl) (by kernel_rfl) (Or.inl rfl))
    (dOne (dRet (dMod (dTy cInt fIntA_ok fx.b_int (by kernel_rfl) (by kernel_rfl) (dCons (dDiv (dVar 5 (by kernel_rfl) (by kernel_rfl) (by kernel_rfl) (by kernel_rfl)) dInt) dNil (by kernel_rfl)) (by decide +kernel) (by kernel_rfl) ⟨(by kernel_rfl), (by kernel_rfl)⟩) (dVar 2 (by kernel_rfl) (by kernel_rfl) (by kernel_rfl) (by kernel_rfl)))))))))))))))
abbrev t__law_kinds : Stmt := topS 17
theorem sc__law_kinds : FnScope ["_law_fell", "_law_kinds_here"] ["_law_fell"] (defScope t__law_kinds) := ⟨rfl, rfl, rfl, by decide +kernel, rfl, by decide +kernel, by decide +kernel⟩
noncomputable def b__law_kinds : MS :=
    (mSeq (mSet 1 (mLst (mCons (mIsi tab_BadName (mVar 0)) (mCons (mIsi tab_BadNumber (mVar 0)) (mCons (mIsi tab_BadRows (mVar 0)) mNil)))))
    (mSeq (mSet 1 (mOp oAdd (mVar 1) (mLst (mCons (mIsi tab_BadWay (mVar 0)) (mCons (mIsi tab_BadRing (mVar 0)) (mCons (mIsi tab_BadPaper (mVar 0)) mNil))))))
    (mSeq (mSet 1 (mOp oAdd (mVar 1) (mLst (mCons (mIsi tab_BadRides (mVar 0)) (mCons (mIsi tab_BadText (mVar 0)) (mCons (mIsi tab_BadDeed (mVar 0)) mNil))))))
    (mRet (mOp oAdd (mVar 1) (mLst (mCons (mIsi tab_TooMany (mVar 0)) (mCons (mIsi tab_NotKept (mVar 0)) (mCons (mIsi tab_NothingToUndo (mVar 0)) mNil)))))))))
noncomputable def m__law_kinds : MF := mfun 1 2 b__law_kinds
theorem ok__law_kinds (fx : Fx G mg) (F : Fun G.K "_law_kinds" "_law_kinds" t__law_kinds f fd) : FnM P w G mg base 1 f fd ["_law_fell"] m__law_kinds :=
  fn_M (k := 0) F sc__law_kinds fun cdv A outer s H E hr tk => by
  exact (dSeq (dSet (dLst (dCons (dIsi rfl (isaOwn fx.o_BadName (by kernel_rfl) (by kernel_rfl)) (dVar 0 (by kernel_rfl) (by kernel_rfl) (by kernel_rfl) (by kernel_rfl)) fx.b_isinstance (by kernel_rfl) ⟨(by kernel_rfl), (by kernel_rfl)⟩ (by kernel_rfl)) (dCons (dIsi rfl (isaOwn fx.o_BadNumber (by kernel_rfl) (by kernel_rfl)) (dVar 0 (by kernel_rfl) (by kernel_rfl) (by kernel_rfl) (by kernel_rfl)) fx.b_isinstance (by kernel_rfl) ⟨(by kernel_rfl), (by kernel_rfl)⟩ (by kernel_rfl)) (dCons (dIsi rfl (isaOwn fx.o_BadRows (by kernel_rfl) (by kernel_rfl)) (dVar 0 (by kernel_rfl) (by kernel_rfl) (by kernel_rfl) (by kernel_rfl)) fx.b_isinstance (by kernel_rfl) ⟨(by kernel_rfl), (by kernel_rfl)⟩ (by kernel_rfl)) dNil (by kernel_rfl)) (by kernel_rfl)) (by kernel_rfl))) sc__law_kinds.nd (by kernel_rfl) (by kernel_rfl) (by kernel_rfl) (Or.inl rfl))
    (dSeq (dSet (dAdd rfl (dVar 1 (by kernel_rfl) (by kernel_rfl) (by kernel_rfl) (by kernel_rfl)) (dLst (dCons (dIsi rfl (isaOwn fx.o_BadWay (by kernel_rfl) (by kernel_rfl)) (dVar 0 (by kernel_rfl) (by kernel_rfl) (by kernel_rfl) (by kernel_rfl)) fx.b_isinstance (by kernel_rfl) ⟨(by kernel_rfl), (by kernel_rfl)⟩ (by kernel_rfl)) (dCons (dIsi rfl (isaOwn fx.o_BadRing (by kernel_rfl) (by kernel_rfl)) (dVar 0 (by kernel_rfl) (by kernel_rfl) (by kernel_rfl) (by kernel_rfl)) fx.b_isinstance (by kernel_rfl) ⟨(by kernel_rfl), (by kernel_rfl)⟩ (by kernel_rfl)) (dCons (dIsi rfl (isaOwn fx.o_BadPaper (by kernel_rfl) (by kernel_rfl)) (dVar 0 (by kernel_rfl) (by kernel_rfl) (by kernel_rfl) (by kernel_rfl)) fx.b_isinstance (by kernel_rfl) ⟨(by kernel_rfl), (by kernel_rfl)⟩ (by kernel_rfl)) dNil (by kernel_rfl)) (by kernel_rfl)) (by kernel_rfl)))) sc__law_kinds.nd (by kernel_rfl) (by kernel_rfl) (by kernel_rfl) (Or.inl rfl))
    (dSeq (dSet (dAdd rfl (dVar 1 (by kernel_rfl) (by kernel_rfl) (by kernel_rfl) (by kernel_rfl)) (dLst (dCons (dIsi rfl (isaOwn fx.o_BadRides (by kernel_rfl) (by kernel_rfl)) (dVar 0 (by kernel_rfl) (by kernel_rfl) (by kernel_rfl) (by kernel_rfl)) fx.b_isinstance (by kernel_rfl) ⟨(by kernel_rfl), (by kernel_rfl)⟩ (by kernel_rfl)) (dCons (dIsi rfl (isaOwn fx.o_BadText (by kernel_rfl) (by kernel_rfl)) (dVar 0 (by kernel_rfl) (by kernel_rfl) (by kernel_rfl) (by kernel_rfl)) fx.b_isinstance (by kernel_rfl) ⟨(by kernel_rfl), (by kernel_rfl)⟩ (by kernel_rfl)) (dCons (dIsi rfl (isaOwn fx.o_BadDeed (by kernel_rfl) (by kernel_rfl)) (dVar 0 (by kernel_rfl) (by kernel_rfl) (by kernel_rfl) (by kernel_rfl)) fx.b_isinstance (by kernel_rfl) ⟨(by kernel_rfl), (by kernel_rfl)⟩ (by kernel_rfl)) dNil (by kernel_rfl)) (by kernel_rfl)) (by kernel_rfl)))) sc__law_kinds.nd (by kernel_rfl) (by kernel_rfl) (by kernel_rfl) (Or.inl rfl))
    (dOne (dRet (dAdd rfl (dVar 1 (by kernel_rfl) (by kernel_rfl) (by kernel_rfl) (by kernel_rfl)) (dLst (dCons (dIsi rfl (isaOwn fx.o_TooMany (by kernel_rfl) (by kernel_rfl)) (dVar 0 (by kernel_rfl) (by kernel_rfl) (by kernel_rfl) (by kernel_rfl)) fx.b_isinstance (by kernel_rfl) ⟨(by kernel_rfl), (by kernel_rfl)⟩ (by kernel_rfl)) (dCons (dIsi rfl (isaOwn fx.o_NotKept (by kernel_rfl) (by kernel_rfl)) (dVar 0 (by kernel_rfl) (by kernel_rfl) (by kernel_rfl) (by kernel_rfl)) fx.b_isinstance (by kernel_rfl) ⟨(by kernel_rfl), (by kernel_rfl)⟩ (by kernel_rfl)) (dCons (dIsi rfl (isaOwn fx.o_NothingToUndo (by kernel_rfl) (by kernel_rfl)) (dVar 0 (by kernel_rfl) (by kernel_rfl) (by kernel_rfl) (by kernel_rfl)) fx.b_isinstance (by kernel_rfl) ⟨(by kernel_rfl), (by kernel_rfl)⟩ (by kernel_rfl)) dNil (by kernel_rfl)) (by kernel_rfl)) (by kernel_rfl)))))))))
abbrev t__law_throw : Stmt := topS 18
theorem sc__law_throw : FnScope ["_law_kind", "_law_values_here"] ["_law_kind", "_law_values_here"] (defScope t__law_throw) := ⟨rfl, rfl, rfl, by decide +kernel, rfl, by decide +kernel, by decide +kernel⟩
noncomputable def b__law_throw : MS :=
    (mSeq (mIf (mB (mOp (oEq 3) (mVar 0) (mC (.int 0))))
    (mRaise 1 (mk1 ("name" : Str)) (mCons (mOp oIx (mVar 1) (mC (.int 0))) mNil))
    mSkip)
    (mSeq (mIf (mB (mOp (oEq 3) (mVar 0) (mC (.int 1))))
    (mRaise 2 (mk2s ("what" : Str) ("value" : Str)) (mCons (mOp oIx (mVar 1) (mC (.int 0))) (mCons (mOp oIx (mVar 1) (mC (.int 1))) mNil)))
    mSkip)
    (mSeq (mIf (mB (mOp (oEq 3) (mVar 0) (mC (.int 2))))
    (mRaise 3 (mk1 ("place" : Str)) (mCons (mOp oIx (mVar 1) (mC (.int 1))) mNil))
    mSkip)
    (mSeq (mIf (mB (mOp (oEq 3) (mVar 0) (mC (.int 3))))
    (mRaise 4 (mk2 ("start" : Str) ("end" : Str)) (mCons (mOp oIx (mVar 1) (mC (.int 0))) (mCons (mOp oIx (mVar 1) (mC (.int 2))) mNil)))
    mSkip)
    (mSeq (mIf (mB (mOp (oEq 3) (mVar 0) (mC (.int 4))))
    (mRaise 5 (mkL ("names" : Str)) (mCons (mCB fList (mCons (mOp oIx (mVar 1) (mC (.int 3))) mNil)) mNil))
    mSkip)
    (mSeq (mIf (mB (mOp (oEq 3) (mVar 0) (mC (.int 5))))
    (mRaise 6 (mk2t ("row" : Str) ("reason" : Str)) (mCons (mOp oIx (mVar 1) (mC (.int 1))) (mCons (mOp oIx (mVar 1) (mC (.int 2))) mNil)))
    mSkip)
    (mSeq (mIf (mB (mOp (oEq 3) (mVar 0) (mC (.int 6))))
    (mRaise 7 (mk1 ("place" : Str)) (mCons (mOp oIx (mVar 1) (mC (.int 1))) mNil))
    mSkip)
    (mSeq (mIf (mB (mOp (oEq 3) (mVar 0) (mC (.int 7))))
    (mRaise 8 (mk1 ("line" : Str)) (mCons (mOp oIx (mVar 1) (mC (.int 1))) mNil))
    mSkip)
    (mSeq (mIf (mB (mOp (oEq 3) (mVar 0) (mC (.int 8))))
    (mRaise 9 (mk1 ("place" : Str)) (mCons (mOp oIx (mVar 1) (mC (.int 1))) mNil))
    mSkip)
    (mSeq (mIf (mB (mOp (oEq 3) (mVar 0) (mC (.int 9))))
    (mRaise 10 (mk1 ("limit" : Str)) (mCons (mOp oIx (mVar 1) (mC (.int 1))) mNil))
    mSkip)
    (mSeq (mIf (mB (mOp (oEq 3) (mVar 0) (mC (.int 10))))
    (mRaise0 11)
    mSkip)
    (mRaise0 12))))))))))))
noncomputable def m__law_throw : MF := mfun 2 2 b__law_throw
theorem ok__law_throw (fx : Fx G mg) (e_BadName : OwnErr P w G mg base "BadName" 1 1 1 (mk1 ("name" : Str))) (e_BadNumber : OwnErr P w G mg base "BadNumber" 1 2 2 (mk2s ("what" : Str) ("value" : Str))) (e_BadRows : OwnErr P w G mg base "BadRows" 1 3 1 (mk1 ("place" : Str))) (e_BadWay : OwnErr P w G mg base "BadWay" 1 4 2 (mk2 ("start" : Str) ("end" : Str))) (e_BadRing : OwnErr P w G mg base "BadRing" 1 5 1 (mkL ("names" : Str))) (e_BadPaper : OwnErr P w G mg base "BadPaper" 1 6 2 (mk2t ("row" : Str) ("reason" : Str))) (e_BadRides : OwnErr P w G mg base "BadRides" 1 7 1 (mk1 ("place" : Str))) (e_BadText : OwnErr P w G mg base "BadText" 1 8 1 (mk1 ("line" : Str))) (e_BadDeed : OwnErr P w G mg base "BadDeed" 1 9 1 (mk1 ("place" : Str))) (e_TooMany : OwnErr P w G mg base "TooMany" 1 10 1 (mk1 ("limit" : Str))) (be_NotKept : BareErr G mg "NotKept" 11) (be_NothingToUndo : BareErr G mg "NothingToUndo" 12) (F : Fun G.K "_law_throw" "_law_throw" t__law_throw f fd) : FnM P w G mg base 3 f fd ["_law_kind", "_law_values_here"] m__law_throw :=
  fn_M (k := 2) F sc__law_throw fun cdv A outer s H E hr tk => by
  exact (dSeq (dIf (qEq 3 rfl (units64 hr) (dVar 0 (by kernel_rfl) (by kernel_rfl) (by kernel_rfl) (by kernel_rfl)) dInt)
    (dOne (dRaise (n := 1) rfl e_BadName hr (by decide) tk rfl (dCons (dIx rfl (dVar 1 (by kernel_rfl) (by kernel_rfl) (by kernel_rfl) (by kernel_rfl)) dInt (fun _ _ => rfl)) dNil (by kernel_rfl)) (al_cons al_nil) (by decide) (by kernel_rfl) (by kernel_rfl) ⟨(by kernel_rfl), (by kernel_rfl)⟩))
    dSkip)
    (dSeq (dIf (qEq 3 rfl (units64 hr) (dVar 0 (by kernel_rfl) (by kernel_rfl) (by kernel_rfl) (by kernel_rfl)) dInt)
    (dOne (dRaise (n := 2) rfl e_BadNumber hr (by decide) tk rfl (dCons (dIx rfl (dVar 1 (by kernel_rfl) (by kernel_rfl) (by kernel_rfl) (by kernel_rfl)) dInt (fun _ _ => rfl)) (dCons (dIx rfl (dVar 1 (by kernel_rfl) (by kernel_rfl) (by kernel_rfl) (by kernel_rfl)) dInt (fun _ _ => rfl)) dNil (by kernel_rfl)) (by kernel_rfl)) (al_cons (al_cons al_nil)) (by decide) (by kernel_rfl) (by kernel_rfl) ⟨(by kernel_rfl), (by kernel_rfl)⟩))
    dSkip)
    (dSeq (dIf (qEq 3 rfl (units64 hr) (dVar 0 (by kernel_rfl) (by kernel_rfl) (by kernel_rfl) (by kernel_rfl)) dInt)
    (dOne (dRaise (n := 1) rfl e_BadRows hr (by decide) tk rfl (dCons (dIx rfl (dVar 1 (by kernel_rfl) (by kernel_rfl) (by kernel_rfl) (by kernel_rfl)) dInt (fun _ _ => rfl)) dNil (by kernel_rfl)) (al_cons al_nil) (by decide) (by kernel_rfl) (by kernel_rfl) ⟨(by kernel_rfl), (by kernel_rfl)⟩))
    dSkip)
    (dSeq (dIf (qEq 3 rfl (units64 hr) (dVar 0 (by kernel_rfl) (by kernel_rfl) (by kernel_rfl) (by kernel_rfl)) dInt)
    (dOne (dRaise (n := 2) rfl e_BadWay hr (by decide) tk rfl (dCons (dIx rfl (dVar 1 (by kernel_rfl) (by kernel_rfl) (by kernel_rfl) (by kernel_rfl)) dInt (fun _ _ => rfl)) (dCons (dIx rfl (dVar 1 (by kernel_rfl) (by kernel_rfl) (by kernel_rfl) (by kernel_rfl)) dInt (fun _ _ => rfl)) dNil (by kernel_rfl)) (by kernel_rfl)) (al_cons (al_cons al_nil)) (by decide) (by kernel_rfl) (by kernel_rfl) ⟨(by kernel_rfl), (by kernel_rfl)⟩))
    dSkip)
    (dSeq (dIf (qEq 3 rfl (units64 hr) (dVar 0 (by kernel_rfl) (by kernel_rfl) (by kernel_rfl) (by kernel_rfl)) dInt)
    (dOne (dRaise (n := 1) rfl e_BadRing hr (by decide) tk rfl (dCons (dTy (cList rfl) fList_ok fx.b_list (by kernel_rfl) (by kernel_rfl) (dCons (dIx rfl (dVar 1 (by kernel_rfl) (by kernel_rfl) (by kernel_rfl) (by kernel_rfl)) dInt (fun _ _ => rfl)) dNil (by kernel_rfl)) (by decide +kernel) (by kernel_rfl) ⟨(by kernel_rfl), (by kernel_rfl)⟩) dNil (by kernel_rfl)) (al_cons al_nil) (by decide) (by kernel_rfl) (by kernel_rfl) ⟨(by kernel_rfl), (by kernel_rfl)⟩))
    dSkip)
    (dSeq (dIf (qEq 3 rfl (units64 hr) (dVar 0 (by kernel_rfl) (by kernel_rfl) (by kernel_rfl) (by kernel_rfl)) dInt)
    (dOne (dRaise (n := 2) rfl e_BadPaper hr (by decide) tk rfl (dCons (dIx rfl (dVar 1 (by kernel_rfl) (by kernel_rfl) (by kernel_rfl) (by kernel_rfl)) dInt (fun _ _ => rfl)) (dCons (dIx rfl (dVar 1 (by kernel_rfl) (by kernel_rfl) (by kernel_rfl) (by kernel_rfl)) dInt (fun _ _ => rfl)) dNil (by kernel_rfl)) (by kernel_rfl)) (al_cons (al_cons al_nil)) (by decide) (by kernel_rfl) (by kernel_rfl) ⟨(by kernel_rfl), (by kernel_rfl)⟩))
    dSkip)
    (dSeq (dIf (qEq 3 rfl (units64 hr) (dVar 0 (by kernel_rfl) (by kernel_rfl) (by kernel_rfl) (by kernel_rfl)) dInt)
    (dOne (dRaise (n := 1) rfl e_BadRides hr (by decide) tk rfl (dCons (dIx rfl (dVar 1 (by kernel_rfl) (by kernel_rfl) (by kernel_rfl) (by kernel_rfl)) dInt (fun _ _ => rfl)) dNil (by kernel_rfl)) (al_cons al_nil) (by decide) (by kernel_rfl) (by kernel_rfl) ⟨(by kernel_rfl), (by kernel_rfl)⟩))
    dSkip)
    (dSeq (dIf (qEq 3 rfl (units64 hr) (dVar 0 (by kernel_rfl) (by kernel_rfl) (by kernel_rfl) (by kernel_rfl)) dInt)
    (dOne (dRaise (n := 1) rfl e_BadText hr (by decide) tk rfl (dCons (dIx rfl (dVar 1 (by kernel_rfl) (by kernel_rfl) (by kernel_rfl) (by kernel_rfl)) dInt (fun _ _ => rfl)) dNil (by kernel_rfl)) (al_cons al_nil) (by decide) (by kernel_rfl) (by kernel_rfl) ⟨(by kernel_rfl), (by kernel_rfl)⟩))
    dSkip)
    (dSeq (dIf (qEq 3 rfl (units64 hr) (dVar 0 (by kernel_rfl) (by kernel_rfl) (by kernel_rfl) (by kernel_rfl)) dInt)
    (dOne (dRaise (n := 1) rfl e_BadDeed hr (by decide) tk rfl (dCons (dIx rfl (dVar 1 (by kernel_rfl) (by kernel_rfl) (by kernel_rfl) (by kernel_rfl)) dInt (fun _ _ => rfl)) dNil (by kernel_rfl)) (al_cons al_nil) (by decide) (by kernel_rfl) (by kernel_rfl) ⟨(by kernel_rfl), (by kernel_rfl)⟩))
    dSkip)
    (dSeq (dIf (qEq 3 rfl (units64 hr) (dVar 0 (by kernel_rfl) (by kernel_rfl) (by kernel_rfl) (by kernel_rfl)) dInt)
    (dOne (dRaise (n := 1) rfl e_TooMany hr (by decide) tk rfl (dCons (dIx rfl (dVar 1 (by kernel_rfl) (by kernel_rfl) (by kernel_rfl) (by kernel_rfl)) dInt (fun _ _ => rfl)) dNil (by kernel_rfl)) (al_cons al_nil) (by decide) (by kernel_rfl) (by kernel_rfl) ⟨(by kernel_rfl), (by kernel_rfl)⟩))
    dSkip)
    (dSeq (dIf (qEq 3 rfl (units64 hr) (dVar 0 (by kernel_rfl) (by kernel_rfl) (by kernel_rfl) (by kernel_rfl)) dInt)
    (dOne (dRaise0 rfl be_NotKept tk rfl (by kernel_rfl) (by kernel_rfl)))
    dSkip)
    (dOne (dRaise0 rfl be_NothingToUndo tk rfl (by kernel_rfl) (by kernel_rfl))))))))))))))
abbrev t__law_caught : Stmt := topS 19
theorem sc__law_caught : FnScope ["_law_kind", "_law_values_here", "_law_fell", "e"] ["_law_kind", "_law_values_here"] (defScope t__law_caught) := ⟨rfl, rfl, rfl, by decide +kernel, rfl, by decide +kernel, by decide +kernel⟩
noncomputable def b__law_caught : MS :=
    (mSeq (mSet 2 (mC .non))
    (mSeq (mTry tk_CalendarError 3 (mDrop (mCB m__law_throw (mCons (mVar 0) (mCons (mVar 1) mNil))))
    (mSet 2 (mVar 3)))
    (mRet (mVar 2))))
noncomputable def m__law_caught : MF := mfun 2 4 b__law_caught
theorem ok__law_caught (fx : Fx G mg) (c__law_throw : Callee P w G mg base "_law_throw" 3 ["_law_kind", "_law_values_here"] m__law_throw) (F : Fun G.K "_law_caught" "_law_caught" t__law_caught f fd) : FnM P w G mg base 4 f fd ["_law_kind", "_law_values_here"] m__law_caught :=
  fn_M (k := 3) F sc__law_caught fun cdv A outer s H E hr tk => by
  exact (dSeq (dSet dNon sc__law_caught.nd (by kernel_rfl) (by kernel_rfl) (by kernel_rfl) (Or.inl rfl))
    (dSeq (dTry rfl fx.t_CalendarError rfl rfl rfl sc__law_caught.nd (by kernel_rfl) (by kernel_rfl) ⟨(by show _ = _; kernel_rfl), (by kernel_rfl), Or.inl fx.g_CalendarError⟩ tk (fun W1 pn1 xe1 tk1 hp1 => (dOne (dExpr (dCall (n := 2) rfl c__law_throw hr (by decide) tk1 rfl (dCons (dVar 0 (by kernel_rfl) (by kernel_rfl) (by kernel_rfl) (by kernel_rfl)) (dCons (dVar 1 (by kernel_rfl) (by kernel_rfl) (by kernel_rfl) (by kernel_rfl)) dNil (by kernel_rfl)) (by kernel_rfl)) (al_cons (al_cons al_nil)) (by kernel_rfl) (by kernel_rfl) ⟨(by kernel_rfl), (by kernel_rfl)⟩) (by kernel_rfl))))
    (fun a1 pm1 => (dOne (dSet (dVar 3 (by kernel_rfl) (by kernel_rfl) (by kernel_rfl) (by kernel_rfl)) sc__law_caught.nd (by kernel_rfl) (by kernel_rfl) (by kernel_rfl) (Or.inl rfl)))))
    (dOne (dRet (dVar 2 (by kernel_rfl) (by kernel_rfl) (by kernel_rfl) (by kernel_rfl))))))
abbrev t__law_holds : Stmt := topS 20
theorem sc__law_holds : FnScope ["_law_fell", "_law_kind", "_law_values_here", "_law_kinds_here", "_law_at"] ["_law_fell", "_law_kind", "_law_values_here"] (defScope t__law_holds) := ⟨rfl, rfl, rfl, by decide +kernel, rfl, by decide +kernel, by decide +kernel⟩
noncomputable def b__law_holds : MS :=
    (mSeq (mIf (mTOr (mTNot (mB (mIsi tab_CalendarError (mVar 0)))) (mTNot (mB (mIsi tab_ValueError (mVar 0)))))
    (mRet (mC (.bl false)))
    mSkip)
    (mSeq (mSet 3 (mCB m__law_kinds (mCons (mVar 0) mNil)))
    (mSeq (mIf (mB (mOp (oNe 3) (mLc (iR1 (mCB fLen (mCons (mVar 3) mNil))) (NT.one 4) (mB (mOp oIx (mVar 3) (mVar 4))) (mVar 4) ([(("_law_at" : Str), 4)].map (·.2))) (mLst (mCons (mVar 1) mNil))))
    (mRet (mC (.bl false)))
    mSkip)
    (mSeq (mIf (mB (mOp (oEq 3) (mVar 1) (mC (.int 0))))
    (mRet (mOp (oEq 3) (mAttrX ("name" : Str) at_name_i at_name_e (mVar 0)) (mOp oIx (mVar 2) (mC (.int 0)))))
    mSkip)
    (mSeq (mIf (mB (mOp (oEq 3) (mVar 1) (mC (.int 1))))
    (mRet (mAnd (mOp (oEq 3) (mAttrX ("what" : Str) at_what_i at_what_e (mVar 0)) (mOp oIx (mVar 2) (mC (.int 0)))) (mOp (oEq 3) (mAttrX ("value" : Str) at_value_i at_value_e (mVar 0)) (mOp oIx (mVar 2) (mC (.int 1))))))
    mSkip)
    (mSeq (mIf (mB (mOp (oEq 3) (mVar 1) (mC (.int 2))))
    (mRet (mOp (oEq 3) (mAttrX ("place" : Str) at_place_i at_place_e (mVar 0)) (mOp oIx (mVar 2) (mC (.int 1)))))
    mSkip)
    (mSeq (mIf (mB (mOp (oEq 3) (mVar 1) (mC (.int 3))))
    (mRet (mAnd (mOp (oEq 3) (mAttrX ("start" : Str) at_start_i at_start_e (mVar 0)) (mOp oIx (mVar 2) (mC (.int 0)))) (mOp (oEq 3) (mAttrX ("end" : Str) at_end_i at_end_e (mVar 0)) (mOp oIx (mVar 2) (mC (.int 2))))))
    mSkip)
    (mSeq (mIf (mB (mOp (oEq 3) (mVar 1) (mC (.int 4))))
    (mRet (mOp (oEq 3) (mAttrX ("names" : Str) at_names_i at_names_e (mVar 0)) (mCB fList (mCons (mOp oIx (mVar 2) (mC (.int 3))) mNil))))
    mSkip)
    (mSeq (mIf (mB (mOp (oEq 3) (mVar 1) (mC (.int 5))))
    (mRet (mAnd (mOp (oEq 3) (mAttrX ("row" : Str) at_row_i at_row_e (mVar 0)) (mOp oIx (mVar 2) (mC (.int 1)))) (mOp (oEq 3) (mAttrX ("reason" : Str) at_reason_i at_reason_e (mVar 0)) (mOp oIx (mVar 2) (mC (.int 2))))))
    mSkip)
    (mSeq (mIf (mB (mOp (oEq 3) (mVar 1) (mC (.int 6))))
    (mRet (mOp (oEq 3) (mAttrX ("place" : Str) at_place_i at_place_e (mVar 0)) (mOp oIx (mVar 2) (mC (.int 1)))))
    mSkip)
    (mSeq (mIf (mB (mOp (oEq 3) (mVar 1) (mC (.int 7))))
    (mRet (mOp (oEq 3) (mAttrX ("line" : Str) at_line_i at_line_e (mVar 0)) (mOp oIx (mVar 2) (mC (.int 1)))))
    mSkip)
    (mSeq (mIf (mB (mOp (oEq 3) (mVar 1) (mC (.int 8))))
    (mRet (mOp (oEq 3) (mAttrX ("place" : Str) at_place_i at_place_e (mVar 0)) (mOp oIx (mVar 2) (mC (.int 1)))))
    mSkip)
    (mSeq (mIf (mB (mOp (oEq 3) (mVar 1) (mC (.int 9))))
    (mRet (mOp (oEq 3) (mAttrX ("limit" : Str) at_limit_i at_limit_e (mVar 0)) (mOp oIx (mVar 2) (mC (.int 1)))))
    mSkip)
    (mRet (mOr (mOp (oEq 3) (mVar 1) (mC (.int 10))) (mOp (oEq 3) (mVar 1) (mC (.int 11))))))))))))))))))
noncomputable def m__law_holds : MF := mfun 3 5 b__law_holds
theorem ok__law_holds (fx : Fx G mg) (c__law_kinds : Callee P w G mg base "_law_kinds" 1 ["_law_fell"] m__law_kinds) (F : Fun G.K "_law_holds" "_law_holds" t__law_holds f fd) : FnM P w G mg base 2 f fd ["_law_fell", "_law_kind", "_law_values_here"] m__law_holds :=
  fn_M (k := 1) F sc__law_holds fun cdv A outer s H E hr tk => by
  exact (dSeq (dIf (qOr' (qNot (qVal (dIsi rfl (isaOwn fx.o_CalendarError (by kernel_rfl) (by kernel_rfl)) (dVar 0 (by kernel_rfl) (by kernel_rfl) (by kernel_rfl) (by kernel_rfl)) fx.b_isinstance (by kernel_rfl) ⟨(by kernel_rfl), (by kernel_rfl)⟩ (by kernel_rfl)) (fun _ => rfl))) (qOr1 (qNot (qVal (dIsi rfl (isaTy fx.v_ValueError (by kernel_rfl) fx.b_ValueError (by kernel_rfl) (by decide +kernel) (by kernel_rfl)) (dVar 0 (by kernel_rfl) (by kernel_rfl) (by kernel_rfl) (by kernel_rfl)) fx.b_isinstance (by kernel_rfl) ⟨(by kernel_rfl), (by kernel_rfl)⟩ (by kernel_rfl)) (fun _ => rfl)))))
    (dOne (dRet dBl))
    dSkip)
    (dSeq (dSet (dCall (n := 1) rfl c__law_kinds hr (by decide) tk rfl (dCons (dVar 0 (by kernel_rfl) (by kernel_rfl) (by kernel_rfl) (by kernel_rfl)) dNil (by kernel_rfl)) (al_cons al_nil) (by kernel_rfl) (by kernel_rfl) ⟨(by kernel_rfl), (by kernel_rfl)⟩) sc__law_holds.nd (by kernel_rfl) (by kernel_rfl) (by kernel_rfl) (Or.inl rfl))
    (dSeq (dIf (qNe 3 rfl (units64 hr) (dLc (own := [(("_law_at" : Str), 4)]) (NT.one 4) rfl rfl sc__law_holds.nd (iRange1 (dB (cLen rfl) fLen_ok fx.b_len (by kernel_rfl) (by kernel_rfl) (dCons (dVar 3 (by kernel_rfl) (by kernel_rfl) (by kernel_rfl) (by kernel_rfl)) dNil (by kernel_rfl)) (by decide +kernel) (by kernel_rfl) ⟨(by kernel_rfl), (by kernel_rfl)⟩) fx.b_range (by kernel_rfl) (by kernel_rfl) (by kernel_rfl)) (blkOk_by (N := ["_law_fell", "_law_kind", "_law_values_here", "_law_kinds_here", "_law_at"]) (sc := defScope t__law_holds) (by decide +kernel)) (fun _ _ _ _ _ => ntOne sc__law_holds.nd (by kernel_rfl) (by kernel_rfl) (Or.inr (by kernel_rfl))) (fun _ _ _ _ _ => dIf1 (qVal (dIx rfl (dVar 3 (by kernel_rfl) (by kernel_rfl) (by kernel_rfl) (by kernel_rfl)) (dVar 4 (by kernel_rfl) (by kernel_rfl) (by kernel_rfl) (by kernel_rfl)) (fun _ _ => rfl)) (fun _ => rfl))) (fun _ _ _ _ _ => (dVar 4 (by kernel_rfl) (by kernel_rfl) (by kernel_rfl) (by kernel_rfl))) (by decide +kernel) (fun _ => rfl)) (dLst (dCons (dVar 1 (by kernel_rfl) (by kernel_rfl) (by kernel_rfl) (by kernel_rfl)) dNil (by kernel_rfl))))
    (dOne (dRet dBl))
    dSkip)
    (dSeq (dIf (qEq 3 rfl (units64 hr) (dVar 1 (by kernel_rfl) (by kernel_rfl) (by kernel_rfl) (by kernel_rfl)) dInt)
    (dOne (dRet (dEq 3 rfl (units64 hr) (dAttr rfl fx.a_name (dVar 0 (by kernel_rfl) (by kernel_rfl) (by kernel_rfl) (by kernel_rfl)) (by kernel_rfl)) (dIx rfl (dVar 2 (by kernel_rfl) (by kernel_rfl) (by kernel_rfl) (by kernel_rfl)) dInt (fun _ _ => rfl)))))
    dSkip)
    (dSeq (dIf (qEq 3 rfl (units64 hr) (dVar 1 (by kernel_rfl) (by kernel_rfl) (by kernel_rfl) (by kernel_rfl)) dInt)
    (dOne (dRet (dAnd (dEq 3 rfl (units64 hr) (dAttr rfl fx.a_what (dVar 0 (by kernel_rfl) (by kernel_rfl) (by kernel_rfl) (by kernel_rfl)) (by kernel_rfl)) (dIx rfl (dVar 2 (by kernel_rfl) (by kernel_rfl) (by kernel_rfl) (by kernel_rfl)) dInt (fun _ _ => rfl))) (dAnd1 (dEq 3 rfl (units64 hr) (dAttr rfl fx.a_value (dVar 0 (by kernel_rfl) (by kernel_rfl) (by kernel_rfl) (by kernel_rfl)) (by kernel_rfl)) (dIx rfl (dVar 2 (by kernel_rfl) (by kernel_rfl) (by kernel_rfl) (by kernel_rfl)) dInt (fun _ _ => rfl)))))))
    dSkip)
    (dSeq (dIf (qEq 3 rfl (units64 hr) (dVar 1 (by kernel_rfl) (by kernel_rfl) (by kernel_rfl) (by kernel_rfl)) dInt)
    (dOne (dRet (dEq 3 rfl (units64 hr) (dAttr rfl fx.a_place (dVar 0 (by kernel_rfl) (by kernel_rfl) (by kernel_rfl) (by kernel_rfl)) (by kernel_rfl)) (dIx rfl (dVar 2 (by kernel_rfl) (by kernel_rfl) (by kernel_rfl) (by kernel_rfl)) dInt (fun _ _ => rfl)))))
    dSkip)
    (dSeq (dIf (qEq 3 rfl (units64 hr) (dVar 1 (by kernel_rfl) (by kernel_rfl) (by kernel_rfl) (by kernel_rfl)) dInt)
    (dOne (dRet (dAnd (dEq 3 rfl (units64 hr) (dAttr rfl fx.a_start (dVar 0 (by kernel_rfl) (by kernel_rfl) (by kernel_rfl) (by kernel_rfl)) (by kernel_rfl)) (dIx rfl (dVar 2 (by kernel_rfl) (by kernel_rfl) (by kernel_rfl) (by kernel_rfl)) dInt (fun _ _ => rfl))) (dAnd1 (dEq 3 rfl (units64 hr) (dAttr rfl fx.a_end (dVar 0 (by kernel_rfl) (by kernel_rfl) (by kernel_rfl) (by kernel_rfl)) (by kernel_rfl)) (dIx rfl (dVar 2 (by kernel_rfl) (by kernel_rfl) (by kernel_rfl) (by kernel_rfl)) dInt (fun _ _ => rfl)))))))
    dSkip)
    (dSeq (dIf (qEq 3 rfl (units64 hr) (dVar 1 (by kernel_rfl) (by kernel_rfl) (by kernel_rfl) (by kernel_rfl)) dInt)
    (dOne (dRet (dEq 3 rfl (units64 hr) (dAttr rfl fx.a_names (dVar 0 (by kernel_rfl) (by kernel_rfl) (by kernel_rfl) (by kernel_rfl)) (by kernel_rfl)) (dTy (cList rfl) fList_ok fx.b_list (by kernel_rfl) (by kernel_rfl) (dCons (dIx rfl (dVar 2 (by kernel_rfl) (by kernel_rfl) (by kernel_rfl) (by kernel_rfl)) dInt (fun _ _ => rfl)) dNil (by kernel_rfl)) (by decide +kernel) (by kernel_rfl) ⟨(by kernel_rfl), (by kernel_rfl)⟩))))
    dSkip)
    (dSeq (dIf (qEq 3 rfl (units64 hr) (dVar 1 (by kernel_rfl) (by kernel_rfl) (by kernel_rfl) (by kernel_rfl)) dInt)
    (dOne (dRet (dAnd (dEq 3 rfl (units64 hr) (dAttr rfl fx.a_row (dVar 0 (by kernel_rfl) (by kernel_rfl) (by kernel_rfl) (by kernel_rfl)) (by kernel_rfl)) (dIx rfl (dVar 2 (by kernel_rfl) (by kernel_rfl) (by kernel_rfl) (by kernel_rfl)) dInt (fun _ _ => rfl))) (dAnd1 (dEq 3 rfl (units64 hr) (dAttr rfl fx.a_reason (dVar 0 (by kernel_rfl) (by kernel_rfl) (by kernel_rfl) (by kernel_rfl)) (by kernel_rfl)) (dIx rfl (dVar 2 (by kernel_rfl) (by kernel_rfl) (by kernel_rfl) (by kernel_rfl)) dInt (fun _ _ => rfl)))))))
    dSkip)
    (dSeq (dIf (qEq 3 rfl (units64 hr) (dVar 1 (by kernel_rfl) (by kernel_rfl) (by kernel_rfl) (by kernel_rfl)) dInt)
    (dOne (dRet (dEq 3 rfl (units64 hr) (dAttr rfl fx.a_place (dVar 0 (by kernel_rfl) (by kernel_rfl) (by kernel_rfl) (by kernel_rfl)) (by kernel_rfl)) (dIx rfl (dVar 2 (by kernel_rfl) (by kernel_rfl) (by kernel_rfl) (by kernel_rfl)) dInt (fun _ _ => rfl)))))
    dSkip)
    (dSeq (dIf (qEq 3 rfl (units64 hr) (dVar 1 (by kernel_rfl) (by kernel_rfl) (by kernel_rfl) (by kernel_rfl)) dInt)
    (dOne (dRet (dEq 3 rfl (units64 hr) (dAttr rfl fx.a_line (dVar 0 (by kernel_rfl) (by kernel_rfl) (by kernel_rfl) (by kernel_rfl)) (by kernel_rfl)) (dIx rfl (dVar 2 (by kernel_rfl) (by kernel_rfl) (by kernel_rfl) (by kernel_rfl)) dInt (fun _ _ => rfl)))))
    dSkip)
    (dSeq (dIf (qEq 3 rfl (units64 hr) (dVar 1 (by kernel_rfl) (by kernel_rfl) (by kernel_rfl) (by kernel_rfl)) dInt)
    (dOne (dRet (dEq 3 rfl (units64 hr) (dAttr rfl fx.a_place (dVar 0 (by kernel_rfl) (by kernel_rfl) (by kernel_rfl) (by kernel_rfl)) (by kernel_rfl)) (dIx rfl (dVar 2 (by kernel_rfl) (by kernel_rfl) (by kernel_rfl) (by kernel_rfl)) dInt (fun _ _ => rfl)))))
    dSkip)
    (dSeq (dIf (qEq 3 rfl (units64 hr) (dVar 1 (by kernel_rfl) (by kernel_rfl) (by kernel_rfl) (by kernel_rfl)) dInt)
    (dOne (dRet (dEq 3 rfl (units64 hr) (dAttr rfl fx.a_limit (dVar 0 (by kernel_rfl) (by kernel_rfl) (by kernel_rfl) (by kernel_rfl)) (by kernel_rfl)) (dIx rfl (dVar 2 (by kernel_rfl) (by kernel_rfl) (by kernel_rfl) (by kernel_rfl)) dInt (fun _ _ => rfl)))))
    dSkip)
    (dOne (dRet (dOr (dEq 3 rfl (units64 hr) (dVar 1 (by kernel_rfl) (by kernel_rfl) (by kernel_rfl) (by kernel_rfl)) dInt) (dAnd1 (dEq 3 rfl (units64 hr) (dVar 1 (by kernel_rfl) (by kernel_rfl) (by kernel_rfl) (by kernel_rfl)) dInt))))))))))))))))))
abbrev t__law_values : Stmt := topS 21
theorem sc__law_values : FnScope ["_law_script", "_law_state", "_law_letters", "_law_words", "_law_k", "_law_j"] ["_law_script", "_law_state"] (defScope t__law_values) := ⟨rfl, rfl, rfl, by decide +kernel, rfl, by decide +kernel, by decide +kernel⟩
noncomputable def b__law_values : MS :=
    (mSeq (mSet 2 (mC (.str ("abcdefghijklmnopqrstuvwxyz" : Str))))
    (mSeq (mSet 3 (mLst mNil))
    (mSeq (mFor (iR1 (mC (.int 4))) (gN 4)
    (mDrop (mBM kList fAppend (mVar 3) (mCons (mBM kStr fJoin (mC (.str ("" : Str))) (mCons (mLc (iR1 (mOp oAdd (mC (.int 1)) (mCB m__law_draw (mCons (mVar 0) (mCons (mVar 1) (mCons (mC (.int 8)) mNil)))))) (NT.one 5) mYes (mOp oIx (mVar 2) (mCB m__law_draw (mCons (mVar 0) (mCons (mVar 1) (mCons (mC (.int 26)) mNil))))) ([(("_law_j" : Str), 5)].map (·.2))) mNil)) mNil))))
    (mRet (mTup (mCons (mOp oIx (mVar 3) (mC (.int 0))) (mCons (mCB m__law_draw (mCons (mVar 0) (mCons (mVar 1) (mCons (mOp oPow (mC (.int 10)) (mC (.int 6))) mNil)))) (mCons (mOp oIx (mVar 3) (mC (.int 1))) (mCons (mSl oSl (mVar 3) (mPart (mC (.int 2))) mNoPart) mNil)))))))))
noncomputable def m__law_values : MF := mfun 2 6 b__law_values
theorem ok__law_values (fx : Fx G mg) (c__law_draw : Callee P w G mg base "_law_draw" 1 ["_law_script", "_law_state", "_law_limit"] m__law_draw) (F : Fun G.K "_law_values" "_law_values" t__law_values f fd) : FnM P w G mg base 2 f fd ["_law_script", "_law_state"] m__law_values :=
  fn_M (k := 1) F sc__law_values fun cdv A outer s H E hr tk => by
  exact (dSeq (dSet dStr sc__law_values.nd (by kernel_rfl) (by kernel_rfl) (by kernel_rfl) (Or.inl rfl))
    (dSeq (dSet (dLst dNil) sc__law_values.nd (by kernel_rfl) (by kernel_rfl) (by kernel_rfl) (Or.inl rfl))
    (dSeq (dFor PassesOwn.leaving rfl (iRange1 dInt fx.b_range (by kernel_rfl) (by kernel_rfl) (by kernel_rfl)) (gName sc__law_values.nd (by kernel_rfl) (by kernel_rfl) (Or.inl rfl))
    (dOne (dExpr (dAppend (dVar 3 (by kernel_rfl) (by kernel_rfl) (by kernel_rfl) (by kernel_rfl)) (dJoin rfl dStr (dLc (own := [(("_law_j" : Str), 5)]) (NT.one 5) rfl rfl sc__law_values.nd (iRange1 (dAdd rfl dInt (dCall (n := 3) rfl c__law_draw hr (by decide) tk rfl (dCons (dVar 0 (by kernel_rfl) (by kernel_rfl) (by kernel_rfl) (by kernel_rfl)) (dCons (dVar 1 (by kernel_rfl) (by kernel_rfl) (by kernel_rfl) (by kernel_rfl)) (dCons dInt dNil (by kernel_rfl)) (by kernel_rfl)) (by kernel_rfl)) (al_cons (al_cons (al_cons al_nil))) (by kernel_rfl) (by kernel_rfl) ⟨(by kernel_rfl), (by kernel_rfl)⟩)) fx.b_range (by kernel_rfl) (by kernel_rfl) (by kernel_rfl)) (blkOk_by (N := ["_law_script", "_law_state", "_law_letters", "_law_words", "_law_k", "_law_j"]) (sc := defScope t__law_values) (by decide +kernel)) (fun _ _ _ _ _ => ntOne sc__law_values.nd (by kernel_rfl) (by kernel_rfl) (Or.inr (by kernel_rfl))) (fun _ _ _ _ _ => dYes) (fun _ _ _ _ _ => (dIx rfl (dVar 2 (by kernel_rfl) (by kernel_rfl) (by kernel_rfl) (by kernel_rfl)) (dCall (n := 3) rfl c__law_draw hr (by decide) takes0 rfl (dCons (dVar 0 (by kernel_rfl) (by kernel_rfl) (by kernel_rfl) (by kernel_rfl)) (dCons (dVar 1 (by kernel_rfl) (by kernel_rfl) (by kernel_rfl) (by kernel_rfl)) (dCons dInt dNil (by kernel_rfl)) (by kernel_rfl)) (by kernel_rfl)) (al_cons (al_cons (al_cons al_nil))) (by kernel_rfl) (by kernel_rfl) ⟨(by kernel_rfl), (by kernel_rfl)⟩) (fun _ _ => rfl))) (by decide +kernel) (fun _ => rfl)) (by kernel_rfl) ⟨(by kernel_rfl), (by kernel_rfl)⟩) rfl (by kernel_rfl) (pe_bm PySem.F.plainAttrs_list PySem.F.slot_list_append PySem.F.type_list_append mt_append (dVar 3 (by kernel_rfl) (by kernel_rfl) (by kernel_rfl) (by kernel_rfl)) (dCons (dJoin rfl dStr (dLc (own := [(("_law_j" : Str), 5)]) (NT.one 5) rfl rfl sc__law_values.nd (iRange1 (dAdd rfl dInt (dCall (n := 3) rfl c__law_draw hr (by decide) tk rfl (dCons (dVar 0 (by kernel_rfl) (by kernel_rfl) (by kernel_rfl) (by kernel_rfl)) (dCons (dVar 1 (by kernel_rfl) (by kernel_rfl) (by kernel_rfl) (by kernel_rfl)) (dCons dInt dNil (by kernel_rfl)) (by kernel_rfl)) (by kernel_rfl)) (al_cons (al_cons (al_cons al_nil))) (by kernel_rfl) (by kernel_rfl) ⟨(by kernel_rfl), (by kernel_rfl)⟩)) fx.b_range (by kernel_rfl) (by kernel_rfl) (by kernel_rfl)) (blkOk_by (N := ["_law_script", "_law_state", "_law_letters", "_law_words", "_law_k", "_law_j"]) (sc := defScope t__law_values) (by decide +kernel)) (fun _ _ _ _ _ => ntOne sc__law_values.nd (by kernel_rfl) (by kernel_rfl) (Or.inr (by kernel_rfl))) (fun _ _ _ _ _ => dYes) (fun _ _ _ _ _ => (dIx rfl (dVar 2 (by kernel_rfl) (by kernel_rfl) (by kernel_rfl) (by kernel_rfl)) (dCall (n := 3) rfl c__law_draw hr (by decide) takes0 rfl (dCons (dVar 0 (by kernel_rfl) (by kernel_rfl) (by kernel_rfl) (by kernel_rfl)) (dCons (dVar 1 (by kernel_rfl) (by kernel_rfl) (by kernel_rfl) (by kernel_rfl)) (dCons dInt dNil (by kernel_rfl)) (by kernel_rfl)) (by kernel_rfl)) (al_cons (al_cons (al_cons al_nil))) (by kernel_rfl) (by kernel_rfl) ⟨(by kernel_rfl), (by kernel_rfl)⟩) (fun _ _ => rfl))) (by decide +kernel) (fun _ => rfl)) (by kernel_rfl) ⟨(by kernel_rfl), (by kernel_rfl)⟩) dNil (by kernel_rfl)))) (by kernel_rfl))) (fun _ => rfl))
    (dOne (dRet (dTup (dCons (dIx rfl (dVar 3 (by kernel_rfl) (by kernel_rfl) (by kernel_rfl) (by kernel_rfl)) dInt (fun _ _ => rfl)) (dCons (dCall (n := 3) rfl c__law_draw hr (by decide) tk rfl (dCons (dVar 0 (by kernel_rfl) (by kernel_rfl) (by kernel_rfl) (by kernel_rfl)) (dCons (dVar 1 (by kernel_rfl) (by kernel_rfl) (by kernel_rfl) (by kernel_rfl)) (dCons (dPow dInt dInt) dNil (by kernel_rfl)) (by kernel_rfl)) (by kernel_rfl)) (al_cons (al_cons (al_cons al_nil))) (by kernel_rfl) (by kernel_rfl) ⟨(by kernel_rfl), (by kernel_rfl)⟩) (dCons (dIx rfl (dVar 3 (by kernel_rfl) (by kernel_rfl) (by kernel_rfl) (by kernel_rfl)) dInt (fun _ _ => rfl)) (dCons (dSl rfl (dVar 3 (by kernel_rfl) (by kernel_rfl) (by kernel_rfl) (by kernel_rfl)) (dPart dInt) dNoP) dNil (by kernel_rfl)) (by kernel_rfl)) (by kernel_rfl)) (by kernel_rfl))))))))
abbrev t_law : Stmt := topS 22
theorem sc_law : FnScope ["_law_script", "_law_state", "_law_kind", "_law_first", "_law_second", "_law_one", "_law_two"] ["_law_script"] (defScope t_law) := ⟨rfl, rfl, rfl, by decide +kernel, rfl, by decide +kernel, by decide +kernel⟩
noncomputable def b_law : MS :=
    (mSeq (mSet 1 (mCB m__law_start (mCons (mVar 0) mNil)))
    (mSeq (mFor (iR1 (mC (.int 12))) (gN 2)
    (mSeq (mSet 3 (mCB m__law_values (mCons (mVar 0) (mCons (mVar 1) mNil))))
    (mSeq (mSet 4 (mCB m__law_values (mCons (mVar 0) (mCons (mVar 1) mNil))))
    (mSeq (mSet 5 (mCB m__law_caught (mCons (mVar 2) (mCons (mVar 3) mNil))))
    (mSeq (mSet 6 (mCB m__law_caught (mCons (mVar 2) (mCons (mVar 4) mNil))))
    (mIf (mTOr (mTNot (mB (mCB m__law_holds (mCons (mVar 5) (mCons (mVar 2) (mCons (mVar 3) mNil)))))) (mTNot (mB (mCB m__law_holds (mCons (mVar 6) (mCons (mVar 2) (mCons (mVar 4) mNil)))))))
    (mRet (mC (.bl false)))
    mSkip))))))
    (mRet (mC (.bl true)))))
noncomputable def m_law : MF := mfun 1 7 b_law
theorem ok_law (fx : Fx G mg) (c__law_start : Callee P w G mg base "_law_start" 1 ["_law_script"] m__law_start) (c__law_values : Callee P w G mg base "_law_values" 2 ["_law_script", "_law_state"] m__law_values) (c__law_caught : Callee P w G mg base "_law_caught" 4 ["_law_kind", "_law_values_here"] m__law_caught) (c__law_holds : Callee P w G mg base "_law_holds" 2 ["_law_fell", "_law_kind", "_law_values_here"] m__law_holds) (F : Fun G.K "law" "law" t_law f fd) : FnM P w G mg base 5 f fd ["_law_script"] m_law :=
  fn_M (k := 4) F sc_law fun cdv A outer s H E hr tk => by
  exact (dSeq (dSet (dCall (n := 1) rfl c__law_start hr (by decide) tk rfl (dCons (dVar 0 (by kernel_rfl) (by kernel_rfl) (by kernel_rfl) (by kernel_rfl)) dNil (by kernel_rfl)) (al_cons al_nil) (by kernel_rfl) (by kernel_rfl) ⟨(by kernel_rfl), (by kernel_rfl)⟩) sc_law.nd (by kernel_rfl) (by kernel_rfl) (by kernel_rfl) (Or.inl rfl))
    (dSeq (dFor PassesOwn.leaving rfl (iRange1 dInt fx.b_range (by kernel_rfl) (by kernel_rfl) (by kernel_rfl)) (gName sc_law.nd (by kernel_rfl) (by kernel_rfl) (Or.inl rfl))
    (dSeq (dSet (dCall (n := 2) rfl c__law_values hr (by decide) tk rfl (dCons (dVar 0 (by kernel_rfl) (by kernel_rfl) (by kernel_rfl) (by kernel_rfl)) (dCons (dVar 1 (by kernel_rfl) (by kernel_rfl) (by kernel_rfl) (by kernel_rfl)) dNil (by kernel_rfl)) (by kernel_rfl)) (al_cons (al_cons al_nil)) (by kernel_rfl) (by kernel_rfl) ⟨(by kernel_rfl), (by kernel_rfl)⟩) sc_law.nd (by kernel_rfl) (by kernel_rfl) (by kernel_rfl) (Or.inl rfl))
    (dSeq (dSet (dCall (n := 2) rfl c__law_values hr (by decide) tk rfl (dCons (dVar 0 (by kernel_rfl) (by kernel_rfl) (by kernel_rfl) (by kernel_rfl)) (dCons (dVar 1 (by kernel_rfl) (by kernel_rfl) (by kernel_rfl) (by kernel_rfl)) dNil (by kernel_rfl)) (by kernel_rfl)) (al_cons (al_cons al_nil)) (by kernel_rfl) (by kernel_rfl) ⟨(by kernel_rfl), (by kernel_rfl)⟩) sc_law.nd (by kernel_rfl) (by kernel_rfl) (by kernel_rfl) (Or.inl rfl))
    (dSeq (dSet (dCall (n := 2) rfl c__law_caught hr (by decide) tk rfl (dCons (dVar 2 (by kernel_rfl) (by kernel_rfl) (by kernel_rfl) (by kernel_rfl)) (dCons (dVar 3 (by kernel_rfl) (by kernel_rfl) (by kernel_rfl) (by kernel_rfl)) dNil (by kernel_rfl)) (by kernel_rfl)) (al_cons (al_cons al_nil)) (by kernel_rfl) (by kernel_rfl) ⟨(by kernel_rfl), (by kernel_rfl)⟩) sc_law.nd (by kernel_rfl) (by kernel_rfl) (by kernel_rfl) (Or.inl rfl))
    (dSeq (dSet (dCall (n := 2) rfl c__law_caught hr (by decide) tk rfl (dCons (dVar 2 (by kernel_rfl) (by kernel_rfl) (by kernel_rfl) (by kernel_rfl)) (dCons (dVar 4 (by kernel_rfl) (by kernel_rfl) (by kernel_rfl) (by kernel_rfl)) dNil (by kernel_rfl)) (by kernel_rfl)) (al_cons (al_cons al_nil)) (by kernel_rfl) (by kernel_rfl) ⟨(by kernel_rfl), (by kernel_rfl)⟩) sc_law.nd (by kernel_rfl) (by kernel_rfl) (by kernel_rfl) (Or.inl rfl))
    (dOne (dIf (qOr' (qNot (qVal (dCall (n := 3) rfl c__law_holds hr (by decide) tk rfl (dCons (dVar 5 (by kernel_rfl) (by kernel_rfl) (by kernel_rfl) (by kernel_rfl)) (dCons (dVar 2 (by kernel_rfl) (by kernel_rfl) (by kernel_rfl) (by kernel_rfl)) (dCons (dVar 3 (by kernel_rfl) (by kernel_rfl) (by kernel_rfl) (by kernel_rfl)) dNil (by kernel_rfl)) (by kernel_rfl)) (by kernel_rfl)) (al_cons (al_cons (al_cons al_nil))) (by kernel_rfl) (by kernel_rfl) ⟨(by kernel_rfl), (by kernel_rfl)⟩) (fun _ => rfl))) (qOr1 (qNot (qVal (dCall (n := 3) rfl c__law_holds hr (by decide) tk rfl (dCons (dVar 6 (by kernel_rfl) (by kernel_rfl) (by kernel_rfl) (by kernel_rfl)) (dCons (dVar 2 (by kernel_rfl) (by kernel_rfl) (by kernel_rfl) (by kernel_rfl)) (dCons (dVar 4 (by kernel_rfl) (by kernel_rfl) (by kernel_rfl) (by kernel_rfl)) dNil (by kernel_rfl)) (by kernel_rfl)) (by kernel_rfl)) (al_cons (al_cons (al_cons al_nil))) (by kernel_rfl) (by kernel_rfl) ⟨(by kernel_rfl), (by kernel_rfl)⟩) (fun _ => rfl)))))
    (dOne (dRet dBl))
    dSkip)))))) (fun _ => rfl))
    (dOne (dRet dBl))))
end
end K83

set_option maxHeartbeats 4000000
namespace K83
open PySem L2 ML
theorem start_spec (ns : List Int) (h : Hm) (hr : rd h 0 = some (ns.map U.int)) :
    ∃ a b : Int, 0 ≤ a ∧ m__law_start [.ref 0] h = some (.ok (.ref h.length) (h ++ [.lst [.int a, .int b, .int 1, .int 0]])) := by
  unfold m__law_start mfun b__law_start
  cases ns with
  | nil =>
    simp [ML.mSeq, ML.mSet, ML.mIf, ML.mRet, ML.mVar, ML.mC, ML.mOp, ML.mCB, ML.mCons, ML.mNil, ML.mB, ML.toB, ML.mLst, ML.mTup, ML.mSkip, ML.mSetIx, ML.mTAnd, ML.mTOr, ML.mTNot, ML.mAnd, ML.mOr, ML.mNot, ML.mIfE, ML.mIsN, ML.mBM, ML.mChain, ML.bndS, ML.mRetN, ML.mDrop, ML.mNeg, fLen, hr, cPow, LIM]
  | cons n ns =>
    simp [ML.mSeq, ML.mSet, ML.mIf, ML.mRet, ML.mVar, ML.mC, ML.mOp, ML.mCB, ML.mCons, ML.mNil, ML.mB, ML.toB, ML.mLst, ML.mTup, ML.mSkip, ML.mSetIx, ML.mTAnd, ML.mTOr, ML.mTNot, ML.mAnd, ML.mOr, ML.mNot, ML.mIfE, ML.mIsN, ML.mBM, ML.mChain, ML.bndS, ML.mRetN, ML.mDrop, ML.mNeg, fLen, hr, ev_ix hr (atI_0), cPow, LIM]
    split <;> omega
section
variable {x y z w : U}
theorem at4_0 : atI [x, y, z, w] (0 : Int) = some x := rfl
theorem at4_1 : atI [x, y, z, w] (1 : Int) = some y := rfl
theorem at4_2 : atI [x, y, z, w] (2 : Int) = some z := rfl
theorem at4_3 : atI [x, y, z, w] (3 : Int) = some w := rfl
theorem atI_in {α : Type} {xs : List α} {i : Int} (h0 : 0 ≤ i) (h1 : i < xs.length) : ∃ y ∈ xs, atI xs i = some y := by
  have h2 : i.toNat < xs.length := by omega
  refine ⟨xs[i.toNat], List.getElem_mem h2, ?_⟩
  unfold atI ixN
  rw [if_pos h0, if_pos h1]
  simp [h2]
end
def mixA (a cell d : Int) : Int := (a.fmod 2147483647 * 48271 + cell.fmod 2147483629 + 7 * (d + 1) + 11).fmod 2147483647
def mixR (a d lim : Int) : Int := (((a * 69621 + (d + 1)).fmod 2147483629).fdiv 13).fmod lim
theorem draw_spec (ns : List Int) (h : Hm) (l : Nat) (a b c d lim : Int) (hl0 : 0 ≠ l) (hr : rd h 0 = some (ns.map U.int)) (hl : h[l]? = some (.lst [.int a, .int b, .int c, .int d])) (ha : 0 ≤ a) (hlim : 0 < lim) (hlim2 : lim < 1073741824) :
    ∃ r a' b' c' : Int, 0 ≤ a' ∧ 0 ≤ r ∧ r < lim ∧ m__law_draw [.ref 0, .ref l, .int lim] h = some (.ok (.int r) (h.set l (.lst [.int a', .int b', .int c', .int (d + 1)]))) := by
  have hrd : rd h l = some [.int a, .int b, .int c, .int d] := ev_rdL hl
  have s2 : ∀ c, (h.set l c)[l]? = some c := fun c => by
    rw [List.getElem?_set_self (List.getElem?_eq_some_iff.mp hl).1]
  have s1 : ∀ ws, rd (h.set l (.lst ws)) l = some ws := fun ws => ev_rdL (s2 _)
  have s3 : ∀ c, rd (h.set l c) 0 = some (ns.map U.int) := fun c => by
    rw [← hr]; unfold rd; rw [List.getElem?_set_ne (Ne.symm hl0)]
  have h1 : lim ≠ 0 := by omega
  have h2 : lim.natAbs < 1073741824 := by omega
  have fm0 : ∀ (x : Int) {y : Int}, 0 < y → 0 ≤ x.fmod y := fun x y hy => Int.fmod_nonneg_of_pos x hy
  have fm1 : ∀ (x : Int) {y : Int}, 0 < y → x.fmod y < y := fun x y hy => Int.fmod_lt_of_pos x hy
  by_cases hc : b = 1 ∧ 0 < a
  · obtain ⟨rfl, ha0⟩ := hc
    refine ⟨a.fmod lim, a.fdiv lim, 1, c, Int.fdiv_nonneg ha (by omega), fm0 a hlim, fm1 a hlim, ?_⟩
    unfold m__law_draw mfun b__law_draw
    simp [ML.mSeq, ML.mSet, ML.mIf, ML.mRet, ML.mVar, ML.mC, ML.mOp, ML.mCB, ML.mCons, ML.mNil, ML.mB, ML.toB, ML.mLst, ML.mTup, ML.mSkip, ML.mSetIx, ML.mTAnd, ML.mTOr, ML.mTNot, ML.mAnd, ML.mOr, ML.mNot, ML.mIfE, ML.mIsN, ML.mBM, ML.mChain, ML.bndS, ML.mRetN, ML.mDrop, ML.mNeg, oIx, hrd, s1, s2, s3, hl, at4_0, at4_1, at4_2, at4_3, ixN, ha0, cDivN, h1, h2]
  · have hcell : ∃ cell : Int, ns = [] ∧ cell = 0 ∨ ns ≠ [] ∧ atI (ns.map U.int) (c.fmod ns.length) = some (.int cell) := by
      cases ns with
      | nil => exact ⟨0, .inl ⟨rfl, rfl⟩⟩
      | cons n ns =>
        obtain ⟨y, hy, e⟩ := atI_in (xs := (n :: ns).map U.int) (i := c.fmod ((n :: ns).length : Int)) (fm0 _ (by simp only [List.length_cons]; omega)) (by rw [List.length_map]; exact fm1 _ (by simp only [List.length_cons]; omega))
        obtain ⟨x, _, rfl⟩ := List.mem_map.mp hy
        exact ⟨x, .inr ⟨by simp, e⟩⟩
    obtain ⟨cell, hcell⟩ := hcell
    refine ⟨mixR (mixA a cell d) d lim, mixA a cell d, 0, c + 1, fm0 _ (by decide), fm0 _ hlim, fm1 _ hlim, ?_⟩
    unfold m__law_draw mfun b__law_draw
    rcases hcell with ⟨rfl, rfl⟩ | ⟨hns, hcell⟩
    · by_cases hb1 : b = 1
      · have ha0 : ¬ (0 < a) := fun q => hc ⟨hb1, q⟩
        simp [ML.mSeq, ML.mSet, ML.mIf, ML.mRet, ML.mVar, ML.mC, ML.mOp, ML.mCB, ML.mCons, ML.mNil, ML.mB, ML.toB, ML.mLst, ML.mTup, ML.mSkip, ML.mSetIx, ML.mTAnd, ML.mTOr, ML.mTNot, ML.mAnd, ML.mOr, ML.mNot, ML.mIfE, ML.mIsN, ML.mBM, ML.mChain, ML.bndS, ML.mRetN, ML.mDrop, ML.mNeg, oIx, hrd, s1, s2, s3, hl, at4_0, at4_1, at4_2, at4_3, ixN, hb1, ha0, cDivN, h1, h2, fLen, cMul, mixA, mixR]
      · simp [ML.mSeq, ML.mSet, ML.mIf, ML.mRet, ML.mVar, ML.mC, ML.mOp, ML.mCB, ML.mCons, ML.mNil, ML.mB, ML.toB, ML.mLst, ML.mTup, ML.mSkip, ML.mSetIx, ML.mTAnd, ML.mTOr, ML.mTNot, ML.mAnd, ML.mOr, ML.mNot, ML.mIfE, ML.mIsN, ML.mBM, ML.mChain, ML.bndS, ML.mRetN, ML.mDrop, ML.mNeg, oIx, hrd, s1, s2, s3, hl, at4_0, at4_1, at4_2, at4_3, ixN, hb1, cDivN, h1, h2, fLen, cMul, mixA, mixR]
    · have hlen' : 0 < ns.length := List.length_pos_iff.mpr hns
      have hlen : (0 : Int) < ns.length := by omega
      have hlen2 : ¬ ((ns.length : Int) = 0) := by omega
      by_cases hb1 : b = 1
      · have ha0 : ¬ (0 < a) := fun q => hc ⟨hb1, q⟩
        simp [ML.mSeq, ML.mSet, ML.mIf, ML.mRet, ML.mVar, ML.mC, ML.mOp, ML.mCB, ML.mCons, ML.mNil, ML.mB, ML.toB, ML.mLst, ML.mTup, ML.mSkip, ML.mSetIx, ML.mTAnd, ML.mTOr, ML.mTNot, ML.mAnd, ML.mOr, ML.mNot, ML.mIfE, ML.mIsN, ML.mBM, ML.mChain, ML.bndS, ML.mRetN, ML.mDrop, ML.mNeg, oIx, hrd, s1, s2, s3, hl, at4_0, at4_1, at4_2, at4_3, ixN, hb1, ha0, cDivN, h1, h2, fLen, cMul, mixA, mixR, hcell, hlen', hlen, hlen2, hns]
      · simp [ML.mSeq, ML.mSet, ML.mIf, ML.mRet, ML.mVar, ML.mC, ML.mOp, ML.mCB, ML.mCons, ML.mNil, ML.mB, ML.toB, ML.mLst, ML.mTup, ML.mSkip, ML.mSetIx, ML.mTAnd, ML.mTOr, ML.mTNot, ML.mAnd, ML.mOr, ML.mNot, ML.mIfE, ML.mIsN, ML.mBM, ML.mChain, ML.bndS, ML.mRetN, ML.mDrop, ML.mNeg, oIx, hrd, s1, s2, s3, hl, at4_0, at4_1, at4_2, at4_3, ixN, hb1, cDivN, h1, h2, fLen, cMul, mixA, mixR, hcell, hlen', hlen, hlen2, hns]
theorem seq_nx {a b : MS} {ρ ρ1 : Ev} {h h1 : Hm} (e : a ρ h = some (.nx ρ1 h1)) : mSeq a b ρ h = b ρ1 h1 := by unfold mSeq; rw [e]
/-- the script stands, and the state -/
def Good (ns : List Int) (h : Hm) : Prop := rd h 0 = some (ns.map U.int) ∧ ∃ a b c d : Int, 0 ≤ a ∧ h[1]? = some (.lst [.int a, .int b, .int c, .int d])
theorem drawC {ns : List Int} {h : Hm} (g : Good ns h) (lim : Int) (h1 : 0 < lim) (h2 : lim < 1073741824) : ∃ (r : Int) (h' : Hm), 0 ≤ r ∧ r < lim ∧ Good ns h' ∧ (∀ i, i ≠ 1 → h'[i]? = h[i]?) ∧ h'.length = h.length ∧ m__law_draw [.ref 0, .ref 1, .int lim] h = some (.ok (.int r) h') := by
  obtain ⟨g0, a, b, c, d, ha, g1⟩ := g
  obtain ⟨r, a', b', c', ha', hr0, hr1, e⟩ := draw_spec ns h 1 a b c d lim (by decide) g0 g1 ha h1 h2
  refine ⟨r, _, hr0, hr1, ⟨?_, a', b', c', d + 1, ha', ?_⟩, fun i hi => by rw [List.getElem?_set_ne (Ne.symm hi)], by simp, e⟩
  · rw [← g0]; unfold rd; rw [List.getElem?_set_ne (by decide)]
  · rw [List.getElem?_set_self (List.getElem?_eq_some_iff.mp g1).1]
theorem Good.app {ns : List Int} {h : Hm} (g : Good ns h) (e : Hm) : Good ns (h ++ e) := by
  obtain ⟨g0, a, b, c, d, ha, g1⟩ := g
  have l1 := (List.getElem?_eq_some_iff.mp g1).1
  refine ⟨?_, a, b, c, d, ha, ?_⟩
  · rw [← g0]; unfold rd; rw [List.getElem?_append_left (by omega)]
  · rw [List.getElem?_append_left l1]; exact g1
theorem Good.at_ {ns : List Int} {h h' : Hm} (g : Good ns h) (e0 : h'[0]? = h[0]?) (e1 : h'[1]? = h[1]?) : Good ns h' := by
  obtain ⟨g0, a, b, c, d, ha, g1⟩ := g
  refine ⟨?_, a, b, c, d, ha, by rw [e1]; exact g1⟩
  rw [← g0]; unfold rd; rw [e0]
theorem Good.len {ns : List Int} {h : Hm} (g : Good ns h) : 2 ≤ h.length := by
  obtain ⟨g0, a, b, c, d, ha, g1⟩ := g
  have := (List.getElem?_eq_some_iff.mp g1).1
  omega
abbrev LT : Str := "abcdefghijklmnopqrstuvwxyz"
theorem lt_len : LT.length = 26 := by decide +kernel
theorem lt_small : ∀ c ∈ LT.cps.toList, c < 128 := by
  have : LT.cps.toList.all (fun c => decide (c < 128)) = true := by decide +kernel
  intro c hc
  simpa using List.all_eq_true.mp this c hc
/-- texts of plain signs -/
def Word (w : Str) : Prop := w.length ≤ 60 ∧ PyData.strOk w = true
def Lets (xs : List U) (cs : List Nat) : Prop := xs = cs.map (fun c => U.str ⟨#[c]⟩) ∧ ∀ c ∈ cs, c < 128
noncomputable abbrev teW : ME := mOp oIx (mVar 2) (mCB m__law_draw (mCons (mVar 0) (mCons (mVar 1) (mCons (mC (.int 26)) mNil))))
theorem compw {ns : List Int} {D : Nat} (hD : D ≠ 0) (hD1 : D ≠ 1) {o3 o4 o5 : Option U} : ∀ (us acc : List U) (cs : List Nat) (h : Hm), Good ns h → h[D]? = some (.lst acc) → acc.length + us.length ≤ 50 → Lets acc cs → ∃ acc' cs' h',
    lcGo (fun _ => True) (NT.one 5) mYes teW [some (.ref 0), some (.ref 1), some (.str LT), o3, o4, o5] D us h = some (.ok (.ref D) h') ∧ Good ns h' ∧ h'[D]? = some (.lst acc') ∧ Lets acc' cs' ∧ acc'.length ≤ 50 ∧ h'.length = h.length ∧ ∀ i, i ≠ 1 → i ≠ D → h'[i]? = h[i]?
  | [], acc, cs, h, g, hc, hl, hs => ⟨acc, cs, h, by unfold lcGo; rw [if_pos trivial], g, hc, hs, by simpa using hl, rfl, fun _ _ _ => rfl⟩
  | u :: us, acc, cs, h, g, hc, hl, hs => by
    simp only [List.length_cons] at hl
    obtain ⟨r, h1, r0, r1, g1, k1, l1, e⟩ := drawC g 26 (by decide) (by decide)
    obtain ⟨y, hy, ey⟩ := atI_in (xs := LT.cps.toList) (i := r) r0 (by rw [← str_len, lt_len]; exact r1)
    have hoL : LT.length ≤ LIM := by rw [lt_len]; decide
    have hix : ∀ h', oIx (.str LT) (.int r) h' = some (.ok (.str ⟨#[y]⟩) h') := fun h' => ev_ixS ey hoL
    have hc1 : h1[D]? = some (.lst acc) := by rw [k1 D hD1]; exact hc
    have hDl : D < h1.length := (List.getElem?_eq_some_iff.mp hc1).1
    have g2 : Good ns (h1.set D (.lst (acc ++ [.str ⟨#[y]⟩]))) := g1.at_ (by rw [List.getElem?_set_ne hD]) (by rw [List.getElem?_set_ne hD1])
    have hs2 : Lets (acc ++ [.str ⟨#[y]⟩]) (cs ++ [y]) := ⟨by rw [hs.1]; simp, fun c hc => by
      rcases List.mem_append.mp hc with hc | hc
      · exact hs.2 c hc
      · rw [List.mem_singleton.mp hc]; exact lt_small y hy⟩
    obtain ⟨acc', cs', h', c1, c2, c3, c4, c5, c6, c7⟩ := compw hD hD1 (o3 := o3) (o4 := o4) (o5 := o5) us (acc ++ [.str ⟨#[y]⟩]) (cs ++ [y]) (h1.set D (.lst (acc ++ [.str ⟨#[y]⟩]))) g2 (by rw [List.getElem?_set_self hDl]) (by simp; omega) hs2
    refine ⟨acc', cs', h', ?_, c2, c3, c4, c5, by rw [c6]; simp [l1], fun i i1 i2 => by rw [c7 i i1 i2, List.getElem?_set_ne (Ne.symm i2), k1 i i1]⟩
    unfold lcGo
    rw [if_pos trivial]
    have ete : teW [some (.ref 0), some (.ref 1), some (.str LT), o3, o4, some u] h = some (.ok (.str ⟨#[y]⟩) h1) := by
      unfold teW
      generalize LT = L at *
      generalize (⟨#[y]⟩ : Str) = Y at *
      simp [ML.mSeq, ML.mSet, ML.mIf, ML.mRet, ML.mVar, ML.mC, ML.mOp, ML.mCB, ML.mCons, ML.mNil, ML.mB, ML.toB, ML.mLst, ML.mTup, ML.mSkip, ML.mSetIx, ML.mTAnd, ML.mTOr, ML.mTNot, ML.mAnd, ML.mOr, ML.mNot, ML.mIfE, ML.mIsN, ML.mBM, ML.mChain, ML.bndS, ML.mRetN, ML.mDrop, ML.mNeg, e, hix]
    have hset : (NT.one 5).set u [some (.ref 0), some (.ref 1), some (.str LT), o3, o4, o5] = some [some (.ref 0), some (.ref 1), some (.str LT), o3, o4, some u] := rfl
    rw [hset]
    simp only [mYes, noEx, bnd_ok, if_true, ete]
    rw [hc1]
    simp only
    rw [if_pos (by show _ < 1000000; omega)]
    exact c1
theorem glue_word : ∀ (cs : List Nat) (a : Array Nat), (a.all fun x => decide (x < 1114112)) = true → (∀ c ∈ cs, c < 128) →
    (((cs.map fun c => (⟨#[c]⟩ : Str)).foldl (fun acc p => acc ++ ("" : Str).cps ++ p.cps) a).all fun x => decide (x < 1114112)) = true ∧ ((cs.map fun c => (⟨#[c]⟩ : Str)).foldl (fun acc p => acc ++ ("" : Str).cps ++ p.cps) a).size = a.size + cs.length
  | [], a, ha, _ => ⟨ha, rfl⟩
  | c :: cs, a, ha, hc => by
    have he : ("" : Str).cps = #[] := by decide +kernel
    have hc0 := hc c List.mem_cons_self
    have h1 := glue_word cs (a ++ ("" : Str).cps ++ #[c]) (by
      rw [he]
      simp only [Array.append_empty, Array.all_append, ha, Bool.true_and]
      simp
      omega) fun d hd => hc d (List.mem_cons_of_mem _ hd)
    simp only [List.map_cons, List.foldl_cons]
    refine ⟨h1.1, ?_⟩
    rw [h1.2, he]
    simp
    omega
theorem join_word {cs : List Nat} (hc : ∀ c ∈ cs, c < 128) (hl : cs.length ≤ 50) : Word (Txt.join "" (cs.map fun c => (⟨#[c]⟩ : Str))) := by
  cases cs with
  | nil => exact ⟨by decide +kernel, by decide +kernel⟩
  | cons c cs =>
    have hc0 := hc c List.mem_cons_self
    have h1 := glue_word cs #[c] (by simp; omega) fun d hd => hc d (List.mem_cons_of_mem _ hd)
    simp only [List.length_cons] at hl
    refine ⟨?_, h1.1⟩
    show (((cs.map fun c => (⟨#[c]⟩ : Str)).foldl (fun acc p => acc ++ ("" : Str).cps ++ p.cps) #[c])).size ≤ 60
    rw [h1.2]
    simp
    omega
theorem strsOf_lets : ∀ (cs : List Nat), strsOf (cs.map fun c => U.str ⟨#[c]⟩) = some (cs.map fun c => (⟨#[c]⟩ : Str))
  | [] => rfl
  | c :: cs => by
    show (match strsOf (cs.map fun c => U.str ⟨#[c]⟩) with
      | some bs => some ((⟨#[c]⟩ : Str) :: bs)
      | none => none) = _
    rw [strsOf_lets cs]
    rfl
theorem sum_lets : ∀ (cs : List Nat), ((cs.map fun c => (⟨#[c]⟩ : Str)).map (·.length)).sum = cs.length
  | [] => rfl
  | c :: cs => by
    simp only [List.map_cons, List.sum_cons, List.length_cons]
    rw [sum_lets cs]
    show 1 + _ = _
    omega
end K83

set_option maxHeartbeats 4000000
namespace K83
open PySem L2 ML
def Words (xs : List U) : Prop := ∀ u ∈ xs, ∃ w, u = .str w ∧ Word w
noncomputable abbrev bodyW : MS := (mDrop (mBM kList fAppend (mVar 3) (mCons (mBM kStr fJoin (mC (.str ("" : Str))) (mCons (mLc (iR1 (mOp oAdd (mC (.int 1)) (mCB m__law_draw (mCons (mVar 0) (mCons (mVar 1) (mCons (mC (.int 8)) mNil)))))) (NT.one 5) mYes (mOp oIx (mVar 2) (mCB m__law_draw (mCons (mVar 0) (mCons (mVar 1) (mCons (mC (.int 26)) mNil))))) ([(("_law_j" : Str), 5)].map (·.2))) mNil)) mNil)))
theorem loopW {ns : List Int} {W : Nat} (hW0 : W ≠ 0) (hW1 : W ≠ 1) : ∀ (us acc : List U) (o4 : Option U) (h : Hm), Good ns h → h[W]? = some (.lst acc) → acc.length + us.length ≤ 50 → Words acc → ∃ acc' o4' h',
    forC (fun _ => True) (gN 4) bodyW us [some (.ref 0), some (.ref 1), some (.str LT), some (.ref W), o4, none] h = some (.nx [some (.ref 0), some (.ref 1), some (.str LT), some (.ref W), o4', none] h') ∧ Good ns h' ∧ h'[W]? = some (.lst acc') ∧ Words acc' ∧ acc'.length = acc.length + us.length ∧ h.length ≤ h'.length ∧ ∀ i, i ≠ 1 → i ≠ W → i < h.length → h'[i]? = h[i]?
  | [], acc, o4, h, g, hc, hl, hs => ⟨acc, o4, h, for_nil trivial, g, hc, hs, rfl, Nat.le_refl _, fun _ _ _ _ => rfl⟩
  | u :: us, acc, o4, h, g, hc, hl, hs => by
    simp only [List.length_cons] at hl
    obtain ⟨r, h1, r0, r1, g1, k1, l1, e⟩ := drawC g 8 (by decide) (by decide)
    have hit : iR1 (mOp oAdd (mC (.int 1)) (mCB m__law_draw (mCons (mVar 0) (mCons (mVar 1) (mCons (mC (.int 8)) mNil))))) [some (.ref 0), some (.ref 1), some (.str LT), some (.ref W), some u, none] h = some (.ok (rItems 0 (1 + r).toNat, fun _ => True) h1) := by
      have q1 : -1000000000 ≤ 1 + r := by omega
      have q2 : 1 + r ≤ 1000000000 := by omega
      simp only [iR1]
      generalize LT = L
      simp [ML.mSeq, ML.mSet, ML.mIf, ML.mRet, ML.mVar, ML.mC, ML.mOp, ML.mCB, ML.mCons, ML.mNil, ML.mB, ML.toB, ML.mLst, ML.mTup, ML.mSkip, ML.mSetIx, ML.mTAnd, ML.mTOr, ML.mTNot, ML.mAnd, ML.mOr, ML.mNot, ML.mIfE, ML.mIsN, ML.mBM, ML.mChain, ML.bndS, ML.mRetN, ML.mDrop, ML.mNeg, e, q1, q2]
    have hWl : W < h.length := (List.getElem?_eq_some_iff.mp hc).1
    have hh2 := g.len
    obtain ⟨accD, cs, h2, c1, g2, cD, cl, cl50, l2, k2⟩ := compw (ns := ns) (D := h1.length) (by omega) (by omega) (o3 := some (.ref W)) (o4 := some u) (o5 := none) (rItems 0 (1 + r).toNat) [] [] (h1 ++ [.lst []]) (g1.app _) (by simp) (by simp [rItems]; omega) ⟨rfl, fun c hc => nomatch hc⟩
    have hlc : (mLc (iR1 (mOp oAdd (mC (.int 1)) (mCB m__law_draw (mCons (mVar 0) (mCons (mVar 1) (mCons (mC (.int 8)) mNil)))))) (NT.one 5) mYes (mOp oIx (mVar 2) (mCB m__law_draw (mCons (mVar 0) (mCons (mVar 1) (mCons (mC (.int 26)) mNil))))) ([(("_law_j" : Str), 5)].map (·.2))) [some (.ref 0), some (.ref 1), some (.str LT), some (.ref W), some u, none] h = some (.ok (.ref h1.length) h2) := by
      unfold mLc
      rw [hit]
      exact c1
    obtain ⟨ecl, hcl⟩ := cl
    have hcsl : cs.length ≤ 50 := by rw [ecl] at cl50; simpa using cl50
    have rdD : rd h2 h1.length = some (cs.map fun c => U.str ⟨#[c]⟩) := by rw [← ecl]; exact ev_rdL cD
    have hj : fJoin (.str ("" : Str)) [.ref h1.length] h2 = some (.ok (.str (Txt.join "" (cs.map fun c => (⟨#[c]⟩ : Str)))) h2) := by
      unfold fJoin
      simp only [rdD, strsOf_lets]
      rw [if_pos]
      rw [sum_lets]
      have : ("" : Str).length = 0 := by decide +kernel
      rw [this]
      omega
    have hw := join_word hcl hcsl
    generalize hTX : Txt.join "" (cs.map fun c => (⟨#[c]⟩ : Str)) = TX at hj hw
    have hWh2 : h2[W]? = some (.lst acc) := by
      rw [k2 W hW1 (by omega), List.getElem?_append_left (by omega), k1 W hW1]
      exact hc
    have hWl2 : W < h2.length := (List.getElem?_eq_some_iff.mp hWh2).1
    have g3 : Good ns (h2.set W (.lst (acc ++ [.str TX]))) := g2.at_ (by rw [List.getElem?_set_ne hW0]) (by rw [List.getElem?_set_ne hW1])
    have hs2 : Words (acc ++ [.str TX]) := fun u hu => by
      rcases List.mem_append.mp hu with hu | hu
      · exact hs u hu
      · exact ⟨TX, List.mem_singleton.mp hu, hw⟩
    obtain ⟨acc', o4', h', d1, d2, d3, d4, d5, d6, d7⟩ := loopW hW0 hW1 us (acc ++ [.str TX]) (some u) (h2.set W (.lst (acc ++ [.str TX]))) g3 (by rw [List.getElem?_set_self hWl2]) (by simp; omega) hs2
    have hl2 : h2.length = h.length + 1 := by rw [l2]; simp [l1]
    refine ⟨acc', o4', h', ?_, d2, d3, d4, by rw [d5]; simp; omega, by simp at d6; omega, fun i i1 i2 i3 => ?_⟩
    · rw [← d1]
      refine for_cons trivial rfl ?_
      unfold bodyW
      generalize mLc (iR1 (mOp oAdd (mC (.int 1)) (mCB m__law_draw (mCons (mVar 0) (mCons (mVar 1) (mCons (mC (.int 8)) mNil)))))) (NT.one 5) mYes (mOp oIx (mVar 2) (mCB m__law_draw (mCons (mVar 0) (mCons (mVar 1) (mCons (mC (.int 26)) mNil))))) ([(("_law_j" : Str), 5)].map (·.2)) = LC at hlc
      have ha : acc.length < LIM := by show _ < 1000000; omega
      have hk : kList (.ref W) h = true := by simp [kList, hc]
      show mDrop (mBM kList fAppend (mVar 3) (mCons (mBM kStr fJoin (mC (.str ("" : Str))) (mCons LC mNil)) mNil)) [some (.ref 0), some (.ref 1), some (.str LT), some (.ref W), some u, none] h = _
      generalize LT = L at *
      simp [ML.mSeq, ML.mSet, ML.mIf, ML.mRet, ML.mVar, ML.mC, ML.mOp, ML.mCB, ML.mCons, ML.mNil, ML.mB, ML.toB, ML.mLst, ML.mTup, ML.mSkip, ML.mSetIx, ML.mTAnd, ML.mTOr, ML.mTNot, ML.mAnd, ML.mOr, ML.mNot, ML.mIfE, ML.mIsN, ML.mBM, ML.mChain, ML.bndS, ML.mRetN, ML.mDrop, ML.mNeg, hk, kStr, hlc, hj, fAppend, hWh2, ha]
    · rw [d7 i i1 i2 (by simp; omega), List.getElem?_set_ne (Ne.symm i2), k2 i i1 (by omega), List.getElem?_append_left (by omega), k1 i i1]
end K83

set_option maxHeartbeats 4000000
namespace K83
open PySem L2 ML
structure VOk (h : Hm) (v : U) (w0 w1 w2 w3 : Str) (n : Int) (l : Nat) : Prop where
  ev : v = .tup [.str w0, .int n, .str w1, .ref l]
  l1 : l ≠ 1
  ce : h[l]? = some (.lst [.str w2, .str w3])
  k0 : Word w0
  k1 : Word w1
  k2 : Word w2
  k3 : Word w3
theorem VOk.app {h : Hm} {v : U} {w0 w1 w2 w3 : Str} {n : Int} {l : Nat} (z : VOk h v w0 w1 w2 w3 n l) (e : Hm) : VOk (h ++ e) v w0 w1 w2 w3 n l :=
  ⟨z.ev, z.l1, by rw [List.getElem?_append_left (List.getElem?_eq_some_iff.mp z.ce).1]; exact z.ce, z.k0, z.k1, z.k2, z.k3⟩
theorem four {xs : List U} (h : xs.length = 4) (w : Words xs) : ∃ a b c d, xs = [.str a, .str b, .str c, .str d] ∧ Word a ∧ Word b ∧ Word c ∧ Word d := by
  match xs, h with
  | [a, b, c, d], _ =>
    obtain ⟨a', rfl, ha⟩ := w a (by simp)
    obtain ⟨b', rfl, hb⟩ := w b (by simp)
    obtain ⟨c', rfl, hc⟩ := w c (by simp)
    obtain ⟨d', rfl, hd⟩ := w d (by simp)
    exact ⟨a', b', c', d', rfl, ha, hb, hc, hd⟩
theorem values {ns : List Int} {h : Hm} (g : Good ns h) : ∃ v w0 w1 w2 w3 n l h', m__law_values [.ref 0, .ref 1] h = some (.ok v h') ∧ Good ns h' ∧ VOk h' v w0 w1 w2 w3 n l ∧ h.length ≤ h'.length ∧ ∀ i, i ≠ 1 → i < h.length → h'[i]? = h[i]? := by
  have hh := g.len
  obtain ⟨acc, o4, h1, c1, g1, ce, cw, cl, l1, k1⟩ := loopW (ns := ns) (W := h.length) (by omega) (by omega) (rItems 0 4) [] none (h ++ [.lst []]) (g.app _) (by simp) (by decide) (fun u hu => nomatch hu)
  obtain ⟨w0, w1, w2, w3, rfl, q0, q1, q2, q3⟩ := four (by rw [cl]; rfl) cw
  obtain ⟨n, h2, n0, n1, g2, k2, l2, e2⟩ := drawC g1 1000000 (by decide) (by decide)
  have hl1 : h.length + 1 ≤ h1.length := by simp at l1; omega
  have ce2 : h2[h.length]? = some (.lst [.str w0, .str w1, .str w2, .str w3]) := by rw [k2 _ (by omega)]; exact ce
  have rd1 := ev_rdL ce
  have rd2 := ev_rdL ce2
  have ix0 : oIx (.ref h.length) (.int 0) h1 = some (.ok (.str w0) h1) := ev_ix rd1 rfl
  have ix1 : oIx (.ref h.length) (.int 1) h2 = some (.ok (.str w1) h2) := ev_ix rd2 rfl
  have sl : oSl (.ref h.length) (some 2) none h2 = some (.ok (.ref h2.length) (h2 ++ [.lst [.str w2, .str w3]])) := by
    have hcut : cut [U.str w0, .str w1, .str w2, .str w3] (some 2) none = [.str w2, .str w3] := rfl
    unfold oSl oSlS oSlL
    simp [ce2, hcut, LIM]
  refine ⟨.tup [.str w0, .int n, .str w1, .ref h2.length], w0, w1, w2, w3, n, h2.length, h2 ++ [.lst [.str w2, .str w3]], ?_, g2.app _, ⟨rfl, by omega, by simp, q0, q1, q2, q3⟩, by simp; omega, fun i i1 i2 => ?_⟩
  · have key : b__law_values [some (.ref 0), some (.ref 1), none, none, none, none] h = some (.rt (.tup [.str w0, .int n, .str w1, .ref h2.length]) (h2 ++ [.lst [.str w2, .str w3]])) := by
      unfold b__law_values
      rw [seq_nx (ρ1 := [some (.ref 0), some (.ref 1), some (.str LT), none, none, none]) (h1 := h) (by simp [ML.mSeq, ML.mSet, ML.mIf, ML.mRet, ML.mVar, ML.mC, ML.mOp, ML.mCB, ML.mCons, ML.mNil, ML.mB, ML.toB, ML.mLst, ML.mTup, ML.mSkip, ML.mSetIx, ML.mTAnd, ML.mTOr, ML.mTNot, ML.mAnd, ML.mOr, ML.mNot, ML.mIfE, ML.mIsN, ML.mBM, ML.mChain, ML.bndS, ML.mRetN, ML.mDrop, ML.mNeg])]
      rw [seq_nx (ρ1 := [some (.ref 0), some (.ref 1), some (.str LT), some (.ref h.length), none, none]) (h1 := h ++ [.lst []]) (by
        generalize LT = L
        simp [ML.mSeq, ML.mSet, ML.mIf, ML.mRet, ML.mVar, ML.mC, ML.mOp, ML.mCB, ML.mCons, ML.mNil, ML.mB, ML.toB, ML.mLst, ML.mTup, ML.mSkip, ML.mSetIx, ML.mTAnd, ML.mTOr, ML.mTNot, ML.mAnd, ML.mOr, ML.mNot, ML.mIfE, ML.mIsN, ML.mBM, ML.mChain, ML.bndS, ML.mRetN, ML.mDrop, ML.mNeg, LIM])]
      rw [seq_nx (ρ1 := [some (.ref 0), some (.ref 1), some (.str LT), some (.ref h.length), o4, none]) (h1 := h1) (by
        unfold mFor
        have hi : iR1 (mC (.int 4)) [some (.ref 0), some (.ref 1), some (.str LT), some (.ref h.length), none, none] (h ++ [.lst []]) = some (.ok (rItems 0 4, fun _ => True) (h ++ [.lst []])) := by
          simp only [iR1]
          generalize LT = L
          simp [ML.mSeq, ML.mSet, ML.mIf, ML.mRet, ML.mVar, ML.mC, ML.mOp, ML.mCB, ML.mCons, ML.mNil, ML.mB, ML.toB, ML.mLst, ML.mTup, ML.mSkip, ML.mSetIx, ML.mTAnd, ML.mTOr, ML.mTNot, ML.mAnd, ML.mOr, ML.mNot, ML.mIfE, ML.mIsN, ML.mBM, ML.mChain, ML.bndS, ML.mRetN, ML.mDrop, ML.mNeg]
        rw [hi]
        exact c1)]
      have h4 : 4 ≤ LIM := by decide
      generalize LT = L
      simp [ML.mSeq, ML.mSet, ML.mIf, ML.mRet, ML.mVar, ML.mC, ML.mOp, ML.mCB, ML.mCons, ML.mNil, ML.mB, ML.toB, ML.mLst, ML.mTup, ML.mSkip, ML.mSetIx, ML.mTAnd, ML.mTOr, ML.mTNot, ML.mAnd, ML.mOr, ML.mNot, ML.mIfE, ML.mIsN, ML.mBM, ML.mChain, ML.bndS, ML.mRetN, ML.mDrop, ML.mNeg, ix0, e2, ix1, sl, cPow, mSl, mPart, mNoPart, h4]
    unfold m__law_values mfun
    simp [key]
  · rw [List.getElem?_append_left (by omega), k2 i i1, k1 i i1 (by omega) (by simp; omega), List.getElem?_append_left i2]
end K83

set_option maxHeartbeats 4000000
namespace K83
open PySem L2 ML
theorem twelve {c : Nat} (h0 : 1 ≤ c) (h1 : c ≤ 12) : c = 1 ∨ c = 2 ∨ c = 3 ∨ c = 4 ∨ c = 5 ∨ c = 6 ∨ c = 7 ∨ c = 8 ∨ c = 9 ∨ c = 10 ∨ c = 11 ∨ c = 12 := by omega
theorem tb1 {c : Nat} (h0 : 1 ≤ c) (h1 : c ≤ 12) : tab_BadName (.exc c) = some (decide (c = 1)) := by
  rcases twelve h0 h1 with rfl | rfl | rfl | rfl | rfl | rfl | rfl | rfl | rfl | rfl | rfl | rfl <;> rfl
theorem tb2 {c : Nat} (h0 : 1 ≤ c) (h1 : c ≤ 12) : tab_BadNumber (.exc c) = some (decide (c = 2)) := by
  rcases twelve h0 h1 with rfl | rfl | rfl | rfl | rfl | rfl | rfl | rfl | rfl | rfl | rfl | rfl <;> rfl
theorem tb3 {c : Nat} (h0 : 1 ≤ c) (h1 : c ≤ 12) : tab_BadRows (.exc c) = some (decide (c = 3)) := by
  rcases twelve h0 h1 with rfl | rfl | rfl | rfl | rfl | rfl | rfl | rfl | rfl | rfl | rfl | rfl <;> rfl
theorem tb4 {c : Nat} (h0 : 1 ≤ c) (h1 : c ≤ 12) : tab_BadWay (.exc c) = some (decide (c = 4)) := by
  rcases twelve h0 h1 with rfl | rfl | rfl | rfl | rfl | rfl | rfl | rfl | rfl | rfl | rfl | rfl <;> rfl
theorem tb5 {c : Nat} (h0 : 1 ≤ c) (h1 : c ≤ 12) : tab_BadRing (.exc c) = some (decide (c = 5)) := by
  rcases twelve h0 h1 with rfl | rfl | rfl | rfl | rfl | rfl | rfl | rfl | rfl | rfl | rfl | rfl <;> rfl
theorem tb6 {c : Nat} (h0 : 1 ≤ c) (h1 : c ≤ 12) : tab_BadPaper (.exc c) = some (decide (c = 6)) := by
  rcases twelve h0 h1 with rfl | rfl | rfl | rfl | rfl | rfl | rfl | rfl | rfl | rfl | rfl | rfl <;> rfl
theorem tb7 {c : Nat} (h0 : 1 ≤ c) (h1 : c ≤ 12) : tab_BadRides (.exc c) = some (decide (c = 7)) := by
  rcases twelve h0 h1 with rfl | rfl | rfl | rfl | rfl | rfl | rfl | rfl | rfl | rfl | rfl | rfl <;> rfl
theorem tb8 {c : Nat} (h0 : 1 ≤ c) (h1 : c ≤ 12) : tab_BadText (.exc c) = some (decide (c = 8)) := by
  rcases twelve h0 h1 with rfl | rfl | rfl | rfl | rfl | rfl | rfl | rfl | rfl | rfl | rfl | rfl <;> rfl
theorem tb9 {c : Nat} (h0 : 1 ≤ c) (h1 : c ≤ 12) : tab_BadDeed (.exc c) = some (decide (c = 9)) := by
  rcases twelve h0 h1 with rfl | rfl | rfl | rfl | rfl | rfl | rfl | rfl | rfl | rfl | rfl | rfl <;> rfl
theorem tb10 {c : Nat} (h0 : 1 ≤ c) (h1 : c ≤ 12) : tab_TooMany (.exc c) = some (decide (c = 10)) := by
  rcases twelve h0 h1 with rfl | rfl | rfl | rfl | rfl | rfl | rfl | rfl | rfl | rfl | rfl | rfl <;> rfl
theorem tb11 {c : Nat} (h0 : 1 ≤ c) (h1 : c ≤ 12) : tab_NotKept (.exc c) = some (decide (c = 11)) := by
  rcases twelve h0 h1 with rfl | rfl | rfl | rfl | rfl | rfl | rfl | rfl | rfl | rfl | rfl | rfl <;> rfl
theorem tb12 {c : Nat} (h0 : 1 ≤ c) (h1 : c ≤ 12) : tab_NothingToUndo (.exc c) = some (decide (c = 12)) := by
  rcases twelve h0 h1 with rfl | rfl | rfl | rfl | rfl | rfl | rfl | rfl | rfl | rfl | rfl | rfl <;> rfl
theorem tbC {c : Nat} (h0 : 1 ≤ c) (h1 : c ≤ 12) : tab_CalendarError (.exc c) = some true := by
  rcases twelve h0 h1 with rfl | rfl | rfl | rfl | rfl | rfl | rfl | rfl | rfl | rfl | rfl | rfl <;> rfl
theorem tbV {c : Nat} (h0 : 1 ≤ c) (h1 : c ≤ 12) : tab_ValueError (.exc c) = some true := by
  rcases twelve h0 h1 with rfl | rfl | rfl | rfl | rfl | rfl | rfl | rfl | rfl | rfl | rfl | rfl <;> rfl
theorem addL {h : Hm} {l b : Nat} {xs ys : List U} (e1 : h[l]? = some (.lst xs)) (e2 : h[b]? = some (.lst ys)) (hl : xs.length + ys.length ≤ LIM) : oAdd (.ref l) (.ref b) h = some (.ok (.ref h.length) (h ++ [.lst (xs ++ ys)])) := by
  unfold oAdd
  simp only [oI0, oAddS, oAddL, e1, e2]
  rw [if_pos hl]
def all12 (c : Nat) : List U := [.bl (decide (c = 1)), .bl (decide (c = 2)), .bl (decide (c = 3)), .bl (decide (c = 4)), .bl (decide (c = 5)), .bl (decide (c = 6)), .bl (decide (c = 7)), .bl (decide (c = 8)), .bl (decide (c = 9)), .bl (decide (c = 10)), .bl (decide (c = 11)), .bl (decide (c = 12))]
theorem isi_at {H : Hm} {r c : Nat} {fs : List (Str × U)} {tab : TyK → Option Bool} {b : Bool} (hc : H[r]? = some (.exc c fs)) (ht : tab (.exc c) = some b) {ρ : Ev} {i : Nat} (hρ : ρ[i]? = some (some (.ref r))) : mIsi tab (mVar i) ρ H = some (.ok (.bl b) H) := by
  simp [mIsi, mVar, hρ, tyK, hc, ht]
theorem lst3 {a b c : ME} {x y z : U} {ρ : Ev} {H : Hm} (ea : a ρ H = some (.ok x H)) (eb : b ρ H = some (.ok y H)) (ec : c ρ H = some (.ok z H)) : mLst (mCons a (mCons b (mCons c mNil))) ρ H = some (.ok (.ref H.length) (H ++ [.lst [x, y, z]])) := by
  have : 3 ≤ LIM := by decide
  simp [mLst, mCons, mNil, ea, eb, ec, this]
theorem app_at {H : Hm} {r : Nat} {x : Cell} (e : Hm) (hc : H[r]? = some x) : (H ++ e)[r]? = some x := by
  rw [List.getElem?_append_left (List.getElem?_eq_some_iff.mp hc).1]; exact hc
theorem stepK {a b c : ME} {x y z : U} {r i : Nat} {xs : List U} {H : Hm} (hi : H[i]? = some (.lst xs)) (hl : xs.length ≤ 100) (ea : a [some (.ref r), some (.ref i)] H = some (.ok x H)) (eb : b [some (.ref r), some (.ref i)] H = some (.ok y H)) (ec : c [some (.ref r), some (.ref i)] H = some (.ok z H)) :
    mOp oAdd (mVar 1) (mLst (mCons a (mCons b (mCons c mNil)))) [some (.ref r), some (.ref i)] H = some (.ok (.ref (H.length + 1)) (H ++ [.lst [x, y, z], .lst (xs ++ [x, y, z])])) := by
  have e1 := lst3 ea eb ec
  have q := addL (h := H ++ [.lst [x, y, z]]) (l := i) (b := H.length) (xs := xs) (ys := [x, y, z]) (app_at _ hi) (by simp) (by show _ ≤ 1000000; simp; omega)
  have hv : mVar 1 [some (.ref r), some (.ref i)] H = some (.ok (.ref i) H) := rfl
  unfold mOp
  rw [hv]
  simp only [bnd_ok]
  rw [e1]
  simp only [bnd_ok]
  rw [q]
  simp
theorem kinds {H : Hm} {r c : Nat} {fs : List (Str × U)} (h0 : 1 ≤ c) (h1 : c ≤ 12) (hc : H[r]? = some (.exc c fs)) : ∃ e i, m__law_kinds [.ref r] H = some (.ok (.ref i) (H ++ e)) ∧ (H ++ e)[i]? = some (.lst (all12 c)) := by
  refine ⟨[.lst [.bl (decide (c = 1)), .bl (decide (c = 2)), .bl (decide (c = 3))], .lst [.bl (decide (c = 4)), .bl (decide (c = 5)), .bl (decide (c = 6))], .lst [.bl (decide (c = 1)), .bl (decide (c = 2)), .bl (decide (c = 3)), .bl (decide (c = 4)), .bl (decide (c = 5)), .bl (decide (c = 6))], .lst [.bl (decide (c = 7)), .bl (decide (c = 8)), .bl (decide (c = 9))], .lst [.bl (decide (c = 1)), .bl (decide (c = 2)), .bl (decide (c = 3)), .bl (decide (c = 4)), .bl (decide (c = 5)), .bl (decide (c = 6)), .bl (decide (c = 7)), .bl (decide (c = 8)), .bl (decide (c = 9))], .lst [.bl (decide (c = 10)), .bl (decide (c = 11)), .bl (decide (c = 12))], .lst (all12 c)], H.length + 6, ?_, by simp⟩
  have hc2 : (H ++ [.lst [.bl (decide (c = 1)), .bl (decide (c = 2)), .bl (decide (c = 3))]])[r]? = some (.exc c fs) := app_at _ hc
  have hc3 : (H ++ [.lst [.bl (decide (c = 1)), .bl (decide (c = 2)), .bl (decide (c = 3))], .lst [.bl (decide (c = 4)), .bl (decide (c = 5)), .bl (decide (c = 6))], .lst [.bl (decide (c = 1)), .bl (decide (c = 2)), .bl (decide (c = 3)), .bl (decide (c = 4)), .bl (decide (c = 5)), .bl (decide (c = 6))]])[r]? = some (.exc c fs) := app_at _ hc
  have hc4 : (H ++ [.lst [.bl (decide (c = 1)), .bl (decide (c = 2)), .bl (decide (c = 3))], .lst [.bl (decide (c = 4)), .bl (decide (c = 5)), .bl (decide (c = 6))], .lst [.bl (decide (c = 1)), .bl (decide (c = 2)), .bl (decide (c = 3)), .bl (decide (c = 4)), .bl (decide (c = 5)), .bl (decide (c = 6))], .lst [.bl (decide (c = 7)), .bl (decide (c = 8)), .bl (decide (c = 9))], .lst [.bl (decide (c = 1)), .bl (decide (c = 2)), .bl (decide (c = 3)), .bl (decide (c = 4)), .bl (decide (c = 5)), .bl (decide (c = 6)), .bl (decide (c = 7)), .bl (decide (c = 8)), .bl (decide (c = 9))]])[r]? = some (.exc c fs) := app_at _ hc
  have key : b__law_kinds [some (.ref r), none] H = some (.rt (.ref (H.length + 6)) (H ++ [.lst [.bl (decide (c = 1)), .bl (decide (c = 2)), .bl (decide (c = 3))], .lst [.bl (decide (c = 4)), .bl (decide (c = 5)), .bl (decide (c = 6))], .lst [.bl (decide (c = 1)), .bl (decide (c = 2)), .bl (decide (c = 3)), .bl (decide (c = 4)), .bl (decide (c = 5)), .bl (decide (c = 6))], .lst [.bl (decide (c = 7)), .bl (decide (c = 8)), .bl (decide (c = 9))], .lst [.bl (decide (c = 1)), .bl (decide (c = 2)), .bl (decide (c = 3)), .bl (decide (c = 4)), .bl (decide (c = 5)), .bl (decide (c = 6)), .bl (decide (c = 7)), .bl (decide (c = 8)), .bl (decide (c = 9))], .lst [.bl (decide (c = 10)), .bl (decide (c = 11)), .bl (decide (c = 12))], .lst (all12 c)])) := by
    unfold b__law_kinds
    rw [seq_nx (ρ1 := [some (.ref r), some (.ref H.length)]) (h1 := H ++ [.lst [.bl (decide (c = 1)), .bl (decide (c = 2)), .bl (decide (c = 3))]]) (by
      unfold mSet
      rw [lst3 (isi_at hc (tb1 h0 h1) rfl) (isi_at hc (tb2 h0 h1) rfl) (isi_at hc (tb3 h0 h1) rfl)]
      rfl)]
    rw [seq_nx (ρ1 := [some (.ref r), some (.ref (H.length + 2))]) (h1 := H ++ [.lst [.bl (decide (c = 1)), .bl (decide (c = 2)), .bl (decide (c = 3))], .lst [.bl (decide (c = 4)), .bl (decide (c = 5)), .bl (decide (c = 6))], .lst [.bl (decide (c = 1)), .bl (decide (c = 2)), .bl (decide (c = 3)), .bl (decide (c = 4)), .bl (decide (c = 5)), .bl (decide (c = 6))]]) (by
      unfold mSet
      rw [stepK (xs := [.bl (decide (c = 1)), .bl (decide (c = 2)), .bl (decide (c = 3))]) (by simp) (by simp) (isi_at hc2 (tb4 h0 h1) rfl) (isi_at hc2 (tb5 h0 h1) rfl) (isi_at hc2 (tb6 h0 h1) rfl)]
      simp)]
    rw [seq_nx (ρ1 := [some (.ref r), some (.ref (H.length + 4))]) (h1 := H ++ [.lst [.bl (decide (c = 1)), .bl (decide (c = 2)), .bl (decide (c = 3))], .lst [.bl (decide (c = 4)), .bl (decide (c = 5)), .bl (decide (c = 6))], .lst [.bl (decide (c = 1)), .bl (decide (c = 2)), .bl (decide (c = 3)), .bl (decide (c = 4)), .bl (decide (c = 5)), .bl (decide (c = 6))], .lst [.bl (decide (c = 7)), .bl (decide (c = 8)), .bl (decide (c = 9))], .lst [.bl (decide (c = 1)), .bl (decide (c = 2)), .bl (decide (c = 3)), .bl (decide (c = 4)), .bl (decide (c = 5)), .bl (decide (c = 6)), .bl (decide (c = 7)), .bl (decide (c = 8)), .bl (decide (c = 9))]]) (by
      unfold mSet
      rw [stepK (xs := [.bl (decide (c = 1)), .bl (decide (c = 2)), .bl (decide (c = 3)), .bl (decide (c = 4)), .bl (decide (c = 5)), .bl (decide (c = 6))]) (by simp) (by simp) (isi_at hc3 (tb7 h0 h1) rfl) (isi_at hc3 (tb8 h0 h1) rfl) (isi_at hc3 (tb9 h0 h1) rfl)]
      simp)]
    unfold mRet
    rw [stepK (xs := [.bl (decide (c = 1)), .bl (decide (c = 2)), .bl (decide (c = 3)), .bl (decide (c = 4)), .bl (decide (c = 5)), .bl (decide (c = 6)), .bl (decide (c = 7)), .bl (decide (c = 8)), .bl (decide (c = 9))]) (by simp) (by simp) (isi_at hc4 (tb10 h0 h1) rfl) (isi_at hc4 (tb11 h0 h1) rfl) (isi_at hc4 (tb12 h0 h1) rfl)]
    simp [all12]
  unfold m__law_kinds mfun
  simp [key]
theorem lc_filter {it : MI} {t : NT} {tt : MT} {te : ME} {vs : List Nat} {ρ : Ev} {h h1 : Hm} {ws : List U} {chk : Hm → Prop} {g : U → U} {p : U → Bool} (hi : it ρ h = some (.ok (ws, chk) h1)) (hc : ∀ acc, chk (h1 ++ [.lst acc]))
    (hl : ws.length ≤ LIM) (ht : ∀ w ∈ ws, ∃ ρ1, t.set w (wipeE ρ vs) = some ρ1 ∧ ∀ acc, tt ρ1 (h1 ++ [.lst acc]) = some (.ok (p w) (h1 ++ [.lst acc])) ∧ te ρ1 (h1 ++ [.lst acc]) = some (.ok (g w) (h1 ++ [.lst acc]))) :
    mLc it t tt te vs ρ h = some (.ok (.ref h1.length) (h1 ++ [.lst ((ws.filter p).map g)])) := by
  unfold mLc
  rw [hi]
  simp only [bnd_ok]
  have key : ∀ (us acc : List U), (∀ w ∈ us, w ∈ ws) → acc.length + us.length ≤ LIM → lcGo chk t tt te (wipeE ρ vs) h1.length us (h1 ++ [.lst acc]) = some (.ok (.ref h1.length) (h1 ++ [.lst (acc ++ (us.filter p).map g)])) := by
    intro us
    induction us with
    | nil => intro acc _ _; unfold lcGo; rw [if_pos (hc acc)]; simp
    | cons w us ih =>
      intro acc hm hl
      obtain ⟨ρ1, e1, e2⟩ := ht w (hm w List.mem_cons_self)
      obtain ⟨e2, e3⟩ := e2 acc
      simp only [List.length_cons] at hl
      unfold lcGo
      rw [if_pos (hc acc), e1]
      simp only [e2, noEx, bnd_ok]
      by_cases hp : p w = true
      · rw [if_pos hp]
        simp only [e3, noEx, bnd_ok]
        have : (h1 ++ [Cell.lst acc])[h1.length]? = some (.lst acc) := by simp
        rw [this]
        simp only
        rw [if_pos (by omega)]
        have e5 : (h1 ++ [Cell.lst acc]).set h1.length (.lst (acc ++ [g w])) = h1 ++ [.lst (acc ++ [g w])] := by
          rw [List.set_append_right _ _ (Nat.le_refl _)]
          simp
        rw [e5, ih (acc ++ [g w]) (fun u hu => hm u (List.mem_cons_of_mem _ hu)) (by simp; omega)]
        simp [hp]
      · rw [if_neg hp, ih acc (fun u hu => hm u (List.mem_cons_of_mem _ hu)) (by omega)]
        simp [hp]
  have := key ws [] (fun w hw => hw) (by simpa using hl)
  simpa using this
theorem ne_ints {h : Hm} {i j : Nat} {k : Int} (e1 : h[i]? = some (.lst [.int k])) (e2 : h[j]? = some (.lst [.int k])) : oNe 3 (.ref i) (.ref j) h = some (.ok (.bl false) h) := by
  have r1 := ev_rdL e1
  have r2 := ev_rdL e2
  simp [oNe, oEqS, sEq, oEqD, dW, dWs, dR, r1, r2, SeqAt.shaped, PyData.canLay0, PyData.depth, PyData.canLayAll0, PyData.depthAll, PyData.eqv, PyData.eqvAll]
theorem eq_strs {h : Hm} {i j : Nat} {a b : Str} (ha : PyData.strOk a = true) (hb : PyData.strOk b = true) (e1 : h[i]? = some (.lst [.str a, .str b])) (e2 : h[j]? = some (.lst [.str a, .str b])) : oEq 3 (.ref i) (.ref j) h = some (.ok (.bl true) h) := by
  have r1 := ev_rdL e1
  have r2 := ev_rdL e2
  simp [oEq, oEqS, sEq, oEqD, dW, dWs, dR, r1, r2, SeqAt.shaped, PyData.canLay0, PyData.depth, PyData.canLayAll0, PyData.depthAll, PyData.eqv, PyData.eqvAll, ha, hb]
end K83

set_option maxHeartbeats 4000000
namespace K83
open PySem L2 ML
def fsOf (w0 w1 : Str) (n : Int) (b : Nat) : Nat → List (Str × U)
  | 0 => [("name", .str w0)]
  | 1 => [("value", .int n), ("what", .str w0)]
  | 2 => [("place", .int n)]
  | 3 => [("end", .str w1), ("start", .str w0)]
  | 4 => [("names", .ref b)]
  | 5 => [("reason", .str w1), ("row", .int n)]
  | 6 => [("place", .int n)]
  | 7 => [("line", .int n)]
  | 8 => [("place", .int n)]
  | 9 => [("limit", .int n)]
  | _ => []
theorem zero12 {c : Nat} (h1 : c < 12) : c = 0 ∨ c = 1 ∨ c = 2 ∨ c = 3 ∨ c = 4 ∨ c = 5 ∨ c = 6 ∨ c = 7 ∨ c = 8 ∨ c = 9 ∨ c = 10 ∨ c = 11 := by omega
theorem throw {h : Hm} {v : U} {w0 w1 w2 w3 : Str} {n : Int} {l : Nat} (z : VOk h v w0 w1 w2 w3 n l) {k : Nat} (hk : k < 12) : ∃ e b, m__law_throw [.int k, v] h = some (.ex (k + 1) (fsOf w0 w1 n b k) (h ++ e)) ∧ (k = 4 → (h ++ e)[b]? = some (.lst [.str w2, .str w3])) := by
  have hv := z.ev
  subst hv
  have hl0 : w0.length ≤ LIM := Nat.le_trans z.k0.1 (by decide)
  have hl1 : w1.length ≤ LIM := Nat.le_trans z.k1.1 (by decide)
  have hrd := ev_rdL z.ce
  have hfl : fList [.ref l] h = some (.ok (.ref h.length) (h ++ [.lst [.str w2, .str w3]])) := by simp [fList, hrd]
  have hrd2 : rd (h ++ [.lst [.str w2, .str w3]]) h.length = some [.str w2, .str w3] := ev_rdL (by simp)
  by_cases h4 : k = 4
  · subst h4
    refine ⟨[.lst [.str w2, .str w3], .lst [.str w2, .str w3]], h.length + 1, ?_, fun _ => by rw [List.getElem?_append_right (by omega)]; simp⟩
    unfold m__law_throw mfun b__law_throw
    simp [ML.mSeq, ML.mSet, ML.mIf, ML.mRet, ML.mVar, ML.mC, ML.mOp, ML.mCB, ML.mCons, ML.mNil, ML.mB, ML.toB, ML.mLst, ML.mTup, ML.mSkip, ML.mSetIx, ML.mTAnd, ML.mTOr, ML.mTNot, ML.mAnd, ML.mOr, ML.mNot, ML.mIfE, ML.mIsN, ML.mBM, ML.mChain, ML.bndS, ML.mRetN, ML.mDrop, ML.mNeg, oIx, atI, ixN, mRaise, mkL, hfl, hrd2, fsOf]
  · refine ⟨[], 0, ?_, fun q => absurd q h4⟩
    rw [List.append_nil]
    unfold m__law_throw mfun b__law_throw
    rcases zero12 hk with rfl | rfl | rfl | rfl | rfl | rfl | rfl | rfl | rfl | rfl | rfl | rfl
    all_goals first
      | exact absurd rfl h4
      | simp [ML.mSeq, ML.mSet, ML.mIf, ML.mRet, ML.mVar, ML.mC, ML.mOp, ML.mCB, ML.mCons, ML.mNil, ML.mB, ML.toB, ML.mLst, ML.mTup, ML.mSkip, ML.mSetIx, ML.mTAnd, ML.mTOr, ML.mTNot, ML.mAnd, ML.mOr, ML.mNot, ML.mIfE, ML.mIsN, ML.mBM, ML.mChain, ML.bndS, ML.mRetN, ML.mDrop, ML.mNeg, oIx, atI, ixN, mRaise, mRaise0, mk1, mk2, mk2s, mk2t, hl0, hl1, fsOf]
theorem caught {h : Hm} {v : U} {w0 w1 w2 w3 : Str} {n : Int} {l : Nat} (z : VOk h v w0 w1 w2 w3 n l) {k : Nat} (hk : k < 12) : ∃ e r b, m__law_caught [.int k, v] h = some (.ok (.ref r) (h ++ e)) ∧ (h ++ e)[r]? = some (.exc (k + 1) (fsOf w0 w1 n b k)) ∧ (k = 4 → (h ++ e)[b]? = some (.lst [.str w2, .str w3])) := by
  obtain ⟨e, b, he, hb⟩ := throw z hk
  have htk : tk_CalendarError (k + 1) = some true := by rcases zero12 hk with rfl | rfl | rfl | rfl | rfl | rfl | rfl | rfl | rfl | rfl | rfl | rfl <;> rfl
  refine ⟨e ++ [.exc (k + 1) (fsOf w0 w1 n b k)], (h ++ e).length, b, ?_, ?_, fun q => ?_⟩
  · generalize fsOf w0 w1 n b k = fs at *
    unfold m__law_caught mfun b__law_caught
    simp [ML.mSeq, ML.mSet, ML.mIf, ML.mRet, ML.mVar, ML.mC, ML.mOp, ML.mCB, ML.mCons, ML.mNil, ML.mB, ML.toB, ML.mLst, ML.mTup, ML.mSkip, ML.mSetIx, ML.mTAnd, ML.mTOr, ML.mTNot, ML.mAnd, ML.mOr, ML.mNot, ML.mIfE, ML.mIsN, ML.mBM, ML.mChain, ML.bndS, ML.mRetN, ML.mDrop, ML.mNeg, mTry, tryEnd, he, htk]
  · rw [← List.append_assoc]; simp
  · rw [← List.append_assoc]; exact app_at _ (hb q)
def pK (c : Nat) : U → Bool
  | .int i => decide (i + 1 = c)
  | _ => false
theorem filt {k : Nat} (hk : k < 12) : ((rItems 0 12).filter (pK (k + 1))).map (fun u => u) = [U.int k] := by
  rcases zero12 hk with rfl | rfl | rfl | rfl | rfl | rfl | rfl | rfl | rfl | rfl | rfl | rfl <;> rfl
theorem at12 {k : Nat} (hk : k < 12) {u : U} (hu : u ∈ rItems 0 12) : ∃ i : Int, u = .int i ∧ atI (all12 (k + 1)) i = some (.bl (pK (k + 1) u)) := by
  simp only [rItems, List.mem_map, List.mem_range] at hu
  obtain ⟨j, hj, rfl⟩ := hu
  refine ⟨_, rfl, ?_⟩
  have e : decide (k + 1 = j + 1) = pK (k + 1) (.int (0 + (j : Int))) := by
    simp only [pK]
    by_cases q : k = j
    · subst q; rw [decide_eq_true rfl, decide_eq_true (by omega)]
    · rw [decide_eq_false (by omega), decide_eq_false (by omega)]
  rw [← e]
  rcases zero12 hj with rfl | rfl | rfl | rfl | rfl | rfl | rfl | rfl | rfl | rfl | rfl | rfl <;> rfl
theorem holds {h : Hm} {v : U} {w0 w1 w2 w3 : Str} {n : Int} {l : Nat} (z : VOk h v w0 w1 w2 w3 n l) {k r b : Nat} (hk : k < 12) (hr : h[r]? = some (.exc (k + 1) (fsOf w0 w1 n b k))) (hb : k = 4 → h[b]? = some (.lst [.str w2, .str w3])) : ∃ e, m__law_holds [.ref r, .int k, v] h = some (.ok (.bl true) (h ++ e)) := by
  have hv := z.ev
  subst hv
  obtain ⟨e1, i, he1, hi⟩ := kinds (by omega) (by omega) hr
  have sub1 : ∀ {j x}, h[j]? = some x → (h ++ e1)[j]? = some x := fun q => app_at _ q
  have sub2 : ∀ {j x}, h[j]? = some x → (h ++ e1 ++ [Cell.lst [.int k]] ++ [.lst [.int k]])[j]? = some x := fun q => app_at _ (app_at _ (app_at _ q))
  have hfin : ∀ e, h ++ (e1 ++ [Cell.lst [.int k]] ++ [.lst [.int k]] ++ e) = h ++ e1 ++ [Cell.lst [.int k]] ++ [.lst [.int k]] ++ e := fun e => by simp
  have E1 : (mIf (mTOr (mTNot (mB (mIsi tab_CalendarError (mVar 0)))) (mTNot (mB (mIsi tab_ValueError (mVar 0))))) (mRet (mC (.bl false))) mSkip) [some (.ref r), some (.int k), some (.tup [.str w0, .int n, .str w1, .ref l]), none, none] h = some (.nx [some (.ref r), some (.int k), some (.tup [.str w0, .int n, .str w1, .ref l]), none, none] h) := by
    have q1 := isi_at (ρ := [some (.ref r), some (.int k), some (.tup [.str w0, .int n, .str w1, .ref l]), none, none]) (i := 0) hr (tbC (by omega) (by omega)) rfl
    have q2 := isi_at (ρ := [some (.ref r), some (.int k), some (.tup [.str w0, .int n, .str w1, .ref l]), none, none]) (i := 0) hr (tbV (by omega) (by omega)) rfl
    generalize mIsi tab_CalendarError (mVar 0) = A at *
    generalize mIsi tab_ValueError (mVar 0) = B at *
    simp [ML.mSeq, ML.mSet, ML.mIf, ML.mRet, ML.mVar, ML.mC, ML.mOp, ML.mCB, ML.mCons, ML.mNil, ML.mB, ML.toB, ML.mLst, ML.mTup, ML.mSkip, ML.mSetIx, ML.mTAnd, ML.mTOr, ML.mTNot, ML.mAnd, ML.mOr, ML.mNot, ML.mIfE, ML.mIsN, ML.mBM, ML.mChain, ML.bndS, ML.mRetN, ML.mDrop, ML.mNeg, q1, q2]
  have E2 : (mSet 3 (mCB m__law_kinds (mCons (mVar 0) mNil))) [some (.ref r), some (.int k), some (.tup [.str w0, .int n, .str w1, .ref l]), none, none] h = some (.nx [some (.ref r), some (.int k), some (.tup [.str w0, .int n, .str w1, .ref l]), some (.ref i), none] (h ++ e1)) := by
    simp [ML.mSeq, ML.mSet, ML.mIf, ML.mRet, ML.mVar, ML.mC, ML.mOp, ML.mCB, ML.mCons, ML.mNil, ML.mB, ML.toB, ML.mLst, ML.mTup, ML.mSkip, ML.mSetIx, ML.mTAnd, ML.mTOr, ML.mTNot, ML.mAnd, ML.mOr, ML.mNot, ML.mIfE, ML.mIsN, ML.mBM, ML.mChain, ML.bndS, ML.mRetN, ML.mDrop, ML.mNeg, he1]
  generalize h ++ e1 = H1 at *
  have hlen : fLen [.ref i] H1 = some (.ok (.int 12) H1) := by
    rw [ev_len (ev_rdL hi)]; rfl
  have hit : iR1 (mCB fLen (mCons (mVar 3) mNil)) [some (.ref r), some (.int k), some (.tup [.str w0, .int n, .str w1, .ref l]), some (.ref i), none] H1 = some (.ok (rItems 0 12, fun _ => True) H1) := by
    simp only [iR1]
    simp [ML.mSeq, ML.mSet, ML.mIf, ML.mRet, ML.mVar, ML.mC, ML.mOp, ML.mCB, ML.mCons, ML.mNil, ML.mB, ML.toB, ML.mLst, ML.mTup, ML.mSkip, ML.mSetIx, ML.mTAnd, ML.mTOr, ML.mTNot, ML.mAnd, ML.mOr, ML.mNot, ML.mIfE, ML.mIsN, ML.mBM, ML.mChain, ML.bndS, ML.mRetN, ML.mDrop, ML.mNeg, hlen]
  have hlc := lc_filter (t := .one 4) (tt := mB (mOp oIx (mVar 3) (mVar 4))) (te := mVar 4) (vs := [4]) (g := fun u => u) (p := pK (k + 1)) hit (fun _ => trivial) (by decide) (fun w hw => by
    obtain ⟨j, rfl, ej⟩ := at12 hk hw
    refine ⟨_, rfl, fun acc => ⟨?_, rfl⟩⟩
    have q := ev_ix (ev_rdL (app_at [.lst acc] hi)) ej
    simp [ML.mSeq, ML.mSet, ML.mIf, ML.mRet, ML.mVar, ML.mC, ML.mOp, ML.mCB, ML.mCons, ML.mNil, ML.mB, ML.toB, ML.mLst, ML.mTup, ML.mSkip, ML.mSetIx, ML.mTAnd, ML.mTOr, ML.mTNot, ML.mAnd, ML.mOr, ML.mNot, ML.mIfE, ML.mIsN, ML.mBM, ML.mChain, ML.bndS, ML.mRetN, ML.mDrop, ML.mNeg, wipeE, q])
  rw [filt hk] at hlc
  have hne : oNe 3 (.ref H1.length) (.ref (H1.length + 1)) (H1 ++ [.lst [.int k]] ++ [.lst [.int k]]) = some (.ok (.bl false) (H1 ++ [.lst [.int k]] ++ [.lst [.int k]])) := ne_ints (k := k) (by rw [List.append_assoc, List.getElem?_append_right (Nat.le_refl _)]; simp) (by rw [List.getElem?_append_right (by simp)]; simp)
  obtain ⟨H2, hH⟩ : ∃ H2, H2 = H1 ++ [Cell.lst [.int k]] ++ [.lst [.int k]] := ⟨_, rfl⟩
  rw [← hH] at hne hfin sub2
  have hr2 := sub2 hr
  have E3 : (mIf (mB (mOp (oNe 3) (mLc (iR1 (mCB fLen (mCons (mVar 3) mNil))) (NT.one 4) (mB (mOp oIx (mVar 3) (mVar 4))) (mVar 4) ([(("_law_at" : Str), 4)].map (·.2))) (mLst (mCons (mVar 1) mNil)))) (mRet (mC (.bl false))) mSkip) [some (.ref r), some (.int k), some (.tup [.str w0, .int n, .str w1, .ref l]), some (.ref i), none] H1 = some (.nx [some (.ref r), some (.int k), some (.tup [.str w0, .int n, .str w1, .ref l]), some (.ref i), none] H2) := by
    show (mIf (mB (mOp (oNe 3) (mLc (iR1 (mCB fLen (mCons (mVar 3) mNil))) (NT.one 4) (mB (mOp oIx (mVar 3) (mVar 4))) (mVar 4) [4]) (mLst (mCons (mVar 1) mNil)))) (mRet (mC (.bl false))) mSkip) _ _ = _
    have h1L : 1 ≤ LIM := by decide
    have e2 : (mLst (mCons (mVar 1) mNil)) [some (.ref r), some (.int k), some (.tup [.str w0, .int n, .str w1, .ref l]), some (.ref i), none] (H1 ++ [.lst [.int k]]) = some (.ok (.ref (H1.length + 1)) H2) := by
      rw [hH]
      simp [ML.mSeq, ML.mSet, ML.mIf, ML.mRet, ML.mVar, ML.mC, ML.mOp, ML.mCB, ML.mCons, ML.mNil, ML.mB, ML.toB, ML.mLst, ML.mTup, ML.mSkip, ML.mSetIx, ML.mTAnd, ML.mTOr, ML.mTNot, ML.mAnd, ML.mOr, ML.mNot, ML.mIfE, ML.mIsN, ML.mBM, ML.mChain, ML.bndS, ML.mRetN, ML.mDrop, ML.mNeg, h1L]
    generalize mLc (iR1 (mCB fLen (mCons (mVar 3) mNil))) (NT.one 4) (mB (mOp oIx (mVar 3) (mVar 4))) (mVar 4) [4] = LC at *
    generalize mLst (mCons (mVar 1) mNil) = LS at *
    simp [ML.mSeq, ML.mSet, ML.mIf, ML.mRet, ML.mVar, ML.mC, ML.mOp, ML.mCB, ML.mCons, ML.mNil, ML.mB, ML.toB, ML.mLst, ML.mTup, ML.mSkip, ML.mSetIx, ML.mTAnd, ML.mTOr, ML.mTNot, ML.mAnd, ML.mOr, ML.mNot, ML.mIfE, ML.mIsN, ML.mBM, ML.mChain, ML.bndS, ML.mRetN, ML.mDrop, ML.mNeg, hlc, e2, hne]
  have key : ∃ e, b__law_holds [some (.ref r), some (.int k), some (.tup [.str w0, .int n, .str w1, .ref l]), none, none] h = some (.rt (.bl true) (H2 ++ e)) := by
    unfold b__law_holds
    rw [seq_nx E1, seq_nx E2, seq_nx E3]
    have n1 : ¬ (("what" : Str) = "value") := by decide +kernel
    have n2 : ¬ (("start" : Str) = "end") := by decide +kernel
    have n3 : ¬ (("row" : Str) = "reason") := by decide +kernel
    have hcl := sub2 z.ce
    by_cases h4 : k = 4
    · subst h4
      have hb2 := sub2 (hb rfl)
      have hfl : fList [.ref l] H2 = some (.ok (.ref H2.length) (H2 ++ [.lst [.str w2, .str w3]])) := by simp [fList, ev_rdL hcl]
      have heq := eq_strs z.k2.2 z.k3.2 (app_at [.lst [.str w2, .str w3]] hb2) (show (H2 ++ [.lst [.str w2, .str w3]])[H2.length]? = some (.lst [.str w2, .str w3]) by simp)
      refine ⟨[.lst [.str w2, .str w3]], ?_⟩
      simp only [fsOf] at hr2
      simp [ML.mSeq, ML.mSet, ML.mIf, ML.mRet, ML.mVar, ML.mC, ML.mOp, ML.mCB, ML.mCons, ML.mNil, ML.mB, ML.toB, ML.mLst, ML.mTup, ML.mSkip, ML.mSetIx, ML.mTAnd, ML.mTOr, ML.mTNot, ML.mAnd, ML.mOr, ML.mNot, ML.mIfE, ML.mIsN, ML.mBM, ML.mChain, ML.bndS, ML.mRetN, ML.mDrop, ML.mNeg, mAttrX, hr2, at_names_e, fget, oIx, atI, ixN, hfl, heq]
    · refine ⟨[], ?_⟩
      rw [List.append_nil]
      rcases zero12 hk with rfl | rfl | rfl | rfl | rfl | rfl | rfl | rfl | rfl | rfl | rfl | rfl
      all_goals first
        | exact absurd rfl h4
        | (simp only [fsOf] at hr2
           simp [ML.mSeq, ML.mSet, ML.mIf, ML.mRet, ML.mVar, ML.mC, ML.mOp, ML.mCB, ML.mCons, ML.mNil, ML.mB, ML.toB, ML.mLst, ML.mTup, ML.mSkip, ML.mSetIx, ML.mTAnd, ML.mTOr, ML.mTNot, ML.mAnd, ML.mOr, ML.mNot, ML.mIfE, ML.mIsN, ML.mBM, ML.mChain, ML.bndS, ML.mRetN, ML.mDrop, ML.mNeg, mAttrX, hr2, at_name_e, at_what_e, at_value_e, at_place_e, at_start_e, at_end_e, at_row_e, at_reason_e, at_line_e, at_limit_e, fget, oIx, atI, ixN, n1, n2, n3])
  obtain ⟨e, key⟩ := key
  refine ⟨e1 ++ [Cell.lst [.int k]] ++ [.lst [.int k]] ++ e, ?_⟩
  rw [hfin]
  unfold m__law_holds mfun
  simp [key]
end K83

set_option maxHeartbeats 4000000
namespace K83
open PySem L2 ML
noncomputable abbrev bodyK : MS := (mSeq (mSet 3 (mCB m__law_values (mCons (mVar 0) (mCons (mVar 1) mNil))))
    (mSeq (mSet 4 (mCB m__law_values (mCons (mVar 0) (mCons (mVar 1) mNil))))
    (mSeq (mSet 5 (mCB m__law_caught (mCons (mVar 2) (mCons (mVar 3) mNil))))
    (mSeq (mSet 6 (mCB m__law_caught (mCons (mVar 2) (mCons (mVar 4) mNil))))
    (mIf (mTOr (mTNot (mB (mCB m__law_holds (mCons (mVar 5) (mCons (mVar 2) (mCons (mVar 3) mNil)))))) (mTNot (mB (mCB m__law_holds (mCons (mVar 6) (mCons (mVar 2) (mCons (mVar 4) mNil)))))))
    (mRet (mC (.bl false)))
    mSkip)))))
theorem turn {ns : List Int} {h : Hm} (g : Good ns h) {k : Nat} (hk : k < 12) (o3 o4 o5 o6 : Option U) : ∃ p3 p4 p5 p6 h', bodyK [some (.ref 0), some (.ref 1), some (.int k), o3, o4, o5, o6] h = some (.nx [some (.ref 0), some (.ref 1), some (.int k), p3, p4, p5, p6] h') ∧ Good ns h' := by
  obtain ⟨v, w0, w1, w2, w3, n, l, h1, e1, g1, z1, l1, k1⟩ := values g
  obtain ⟨u, x0, x1, x2, x3, m, j, h2, e2, g2, z2, l2, k2⟩ := values g1
  have z1' : VOk h2 v w0 w1 w2 w3 n l := ⟨z1.ev, z1.l1, by rw [k2 _ z1.l1 (List.getElem?_eq_some_iff.mp z1.ce).1]; exact z1.ce, z1.k0, z1.k1, z1.k2, z1.k3⟩
  obtain ⟨a1, r1, b1, f1, c1, d1⟩ := caught z1' hk
  obtain ⟨a2, r2, b2, f2, c2, d2⟩ := caught (z2.app a1) hk
  obtain ⟨a3, f3⟩ := holds ((z1'.app a1).app a2) hk (app_at a2 c1) (fun q => app_at a2 (d1 q))
  obtain ⟨a4, f4⟩ := holds (((z2.app a1).app a2).app a3) hk (app_at a3 c2) (fun q => app_at a3 (d2 q))
  refine ⟨some v, some u, some (.ref r1), some (.ref r2), h2 ++ a1 ++ a2 ++ a3 ++ a4, ?_, (((g2.app a1).app a2).app a3).app a4⟩
  unfold bodyK
  rw [seq_nx (ρ1 := [some (.ref 0), some (.ref 1), some (.int k), some v, o4, o5, o6]) (h1 := h1) (by simp [ML.mSeq, ML.mSet, ML.mIf, ML.mRet, ML.mVar, ML.mC, ML.mOp, ML.mCB, ML.mCons, ML.mNil, ML.mB, ML.toB, ML.mLst, ML.mTup, ML.mSkip, ML.mSetIx, ML.mTAnd, ML.mTOr, ML.mTNot, ML.mAnd, ML.mOr, ML.mNot, ML.mIfE, ML.mIsN, ML.mBM, ML.mChain, ML.bndS, ML.mRetN, ML.mDrop, ML.mNeg, e1])]
  rw [seq_nx (ρ1 := [some (.ref 0), some (.ref 1), some (.int k), some v, some u, o5, o6]) (h1 := h2) (by simp [ML.mSeq, ML.mSet, ML.mIf, ML.mRet, ML.mVar, ML.mC, ML.mOp, ML.mCB, ML.mCons, ML.mNil, ML.mB, ML.toB, ML.mLst, ML.mTup, ML.mSkip, ML.mSetIx, ML.mTAnd, ML.mTOr, ML.mTNot, ML.mAnd, ML.mOr, ML.mNot, ML.mIfE, ML.mIsN, ML.mBM, ML.mChain, ML.bndS, ML.mRetN, ML.mDrop, ML.mNeg, e2])]
  rw [seq_nx (ρ1 := [some (.ref 0), some (.ref 1), some (.int k), some v, some u, some (.ref r1), o6]) (h1 := h2 ++ a1) (by simp [ML.mSeq, ML.mSet, ML.mIf, ML.mRet, ML.mVar, ML.mC, ML.mOp, ML.mCB, ML.mCons, ML.mNil, ML.mB, ML.toB, ML.mLst, ML.mTup, ML.mSkip, ML.mSetIx, ML.mTAnd, ML.mTOr, ML.mTNot, ML.mAnd, ML.mOr, ML.mNot, ML.mIfE, ML.mIsN, ML.mBM, ML.mChain, ML.bndS, ML.mRetN, ML.mDrop, ML.mNeg, f1])]
  rw [seq_nx (ρ1 := [some (.ref 0), some (.ref 1), some (.int k), some v, some u, some (.ref r1), some (.ref r2)]) (h1 := h2 ++ a1 ++ a2) (by
    generalize h2 ++ a1 = H1 at *
    simp [ML.mSeq, ML.mSet, ML.mIf, ML.mRet, ML.mVar, ML.mC, ML.mOp, ML.mCB, ML.mCons, ML.mNil, ML.mB, ML.toB, ML.mLst, ML.mTup, ML.mSkip, ML.mSetIx, ML.mTAnd, ML.mTOr, ML.mTNot, ML.mAnd, ML.mOr, ML.mNot, ML.mIfE, ML.mIsN, ML.mBM, ML.mChain, ML.bndS, ML.mRetN, ML.mDrop, ML.mNeg, f2])]
  generalize h2 ++ a1 ++ a2 = H2 at *
  generalize hH3 : H2 ++ a3 = H3 at *
  simp [ML.mSeq, ML.mSet, ML.mIf, ML.mRet, ML.mVar, ML.mC, ML.mOp, ML.mCB, ML.mCons, ML.mNil, ML.mB, ML.toB, ML.mLst, ML.mTup, ML.mSkip, ML.mSetIx, ML.mTAnd, ML.mTOr, ML.mTNot, ML.mAnd, ML.mOr, ML.mNot, ML.mIfE, ML.mIsN, ML.mBM, ML.mChain, ML.bndS, ML.mRetN, ML.mDrop, ML.mNeg, f3, f4]
theorem loopK {ns : List Int} : ∀ (us : List Nat) (o2 o3 o4 o5 o6 : Option U) (h : Hm), Good ns h → (∀ k ∈ us, k < 12) → ∃ p2 p3 p4 p5 p6 h', forC (fun _ => True) (gN 2) bodyK (us.map fun (k : Nat) => U.int (0 + (k : Int))) [some (.ref 0), some (.ref 1), o2, o3, o4, o5, o6] h = some (.nx [some (.ref 0), some (.ref 1), p2, p3, p4, p5, p6] h') ∧ Good ns h'
  | [], o2, o3, o4, o5, o6, h, g, _ => ⟨o2, o3, o4, o5, o6, h, for_nil trivial, g⟩
  | k :: us, o2, o3, o4, o5, o6, h, g, hu => by
    obtain ⟨p3, p4, p5, p6, h1, e, g1⟩ := turn g (hu k List.mem_cons_self) o3 o4 o5 o6
    obtain ⟨q2, q3, q4, q5, q6, h', e', g'⟩ := loopK us (some (.int k)) p3 p4 p5 p6 h1 g1 fun j hj => hu j (List.mem_cons_of_mem _ hj)
    refine ⟨q2, q3, q4, q5, q6, h', ?_, g'⟩
    rw [← e', List.map_cons]
    refine for_cons trivial rfl ?_
    show bodyK [some (.ref 0), some (.ref 1), some (.int (0 + (k : Int))), o3, o4, o5, o6] h = _
    rw [Int.zero_add]
    exact e
theorem law_spec (ns : List Int) (c : Cell) (hc : c = .lst (ns.map U.int) ∨ c = .frz (ns.map U.int)) : ∃ h', m_law [.ref 0] [c] = some (.ok (.bl true) h') := by
  have hr0 : rd [c] 0 = some (ns.map U.int) := by rcases hc with rfl | rfl <;> simp [rd]
  obtain ⟨a, b, ha, e1⟩ := start_spec ns [c] hr0
  have e1 : m__law_start [.ref 0] [c] = some (.ok (.ref 1) [c, .lst [.int a, .int b, .int 1, .int 0]]) := e1
  have g1 : Good ns ([c, .lst [.int a, .int b, .int 1, .int 0]]) := ⟨by rw [← hr0]; simp [rd], a, b, 1, 0, ha, by simp⟩
  obtain ⟨p2, p3, p4, p5, p6, h', e, _⟩ := loopK (List.range 12) none none none none none _ g1 (fun k hk => List.mem_range.mp hk)
  refine ⟨h', ?_⟩
  have key : b_law [some (.ref 0), none, none, none, none, none, none] [c] = some (.rt (.bl true) h') := by
    unfold b_law
    rw [seq_nx (ρ1 := [some (.ref 0), some (.ref 1), none, none, none, none, none]) (h1 := [c, .lst [.int a, .int b, .int 1, .int 0]]) (by simp [ML.mSeq, ML.mSet, ML.mIf, ML.mRet, ML.mVar, ML.mC, ML.mOp, ML.mCB, ML.mCons, ML.mNil, ML.mB, ML.toB, ML.mLst, ML.mTup, ML.mSkip, ML.mSetIx, ML.mTAnd, ML.mTOr, ML.mTNot, ML.mAnd, ML.mOr, ML.mNot, ML.mIfE, ML.mIsN, ML.mBM, ML.mChain, ML.bndS, ML.mRetN, ML.mDrop, ML.mNeg, e1])]
    rw [seq_nx (ρ1 := [some (.ref 0), some (.ref 1), p2, p3, p4, p5, p6]) (h1 := h') (by
      unfold mFor
      have hi : iR1 (mC (.int 12)) [some (.ref 0), some (.ref 1), none, none, none, none, none] [c, .lst [.int a, .int b, .int 1, .int 0]] = some (.ok (rItems 0 12, fun _ => True) [c, .lst [.int a, .int b, .int 1, .int 0]]) := by
        simp only [iR1]
        simp [ML.mSeq, ML.mSet, ML.mIf, ML.mRet, ML.mVar, ML.mC, ML.mOp, ML.mCB, ML.mCons, ML.mNil, ML.mB, ML.toB, ML.mLst, ML.mTup, ML.mSkip, ML.mSetIx, ML.mTAnd, ML.mTOr, ML.mTNot, ML.mAnd, ML.mOr, ML.mNot, ML.mIfE, ML.mIsN, ML.mBM, ML.mChain, ML.bndS, ML.mRetN, ML.mDrop, ML.mNeg]
      rw [hi]
      exact e)]
    simp [ML.mSeq, ML.mSet, ML.mIf, ML.mRet, ML.mVar, ML.mC, ML.mOp, ML.mCB, ML.mCons, ML.mNil, ML.mB, ML.toB, ML.mLst, ML.mTup, ML.mSkip, ML.mSetIx, ML.mTAnd, ML.mTOr, ML.mTNot, ML.mAnd, ML.mOr, ML.mNot, ML.mIfE, ML.mIsN, ML.mBM, ML.mChain, ML.bndS, ML.mRetN, ML.mDrop, ML.mNeg]
  unfold m_law mfun
  simp [key]
end K83

set_option maxHeartbeats 4000000
namespace K83
open PySem L2 ML
abbrev i_BadName : Stmt := inClass (topS 2) 0
theorem si_BadName : SupScope ["self", "name"] ["self", "name"] (defScope i_BadName) := ⟨rfl, rfl, rfl, by decide +kernel, rfl, by decide +kernel, by decide +kernel, by decide +kernel, by decide +kernel, by decide +kernel⟩
abbrev i_BadNumber : Stmt := inClass (topS 3) 0
theorem si_BadNumber : SupScope ["self", "what", "value"] ["self", "what", "value"] (defScope i_BadNumber) := ⟨rfl, rfl, rfl, by decide +kernel, rfl, by decide +kernel, by decide +kernel, by decide +kernel, by decide +kernel, by decide +kernel⟩
abbrev i_BadRows : Stmt := inClass (topS 4) 0
theorem si_BadRows : SupScope ["self", "place"] ["self", "place"] (defScope i_BadRows) := ⟨rfl, rfl, rfl, by decide +kernel, rfl, by decide +kernel, by decide +kernel, by decide +kernel, by decide +kernel, by decide +kernel⟩
abbrev i_BadWay : Stmt := inClass (topS 5) 0
theorem si_BadWay : SupScope ["self", "start", "end"] ["self", "start", "end"] (defScope i_BadWay) := ⟨rfl, rfl, rfl, by decide +kernel, rfl, by decide +kernel, by decide +kernel, by decide +kernel, by decide +kernel, by decide +kernel⟩
abbrev i_BadRing : Stmt := inClass (topS 6) 0
theorem si_BadRing : SupScope ["self", "names"] ["self", "names"] (defScope i_BadRing) := ⟨rfl, rfl, rfl, by decide +kernel, rfl, by decide +kernel, by decide +kernel, by decide +kernel, by decide +kernel, by decide +kernel⟩
abbrev i_BadPaper : Stmt := inClass (topS 7) 0
theorem si_BadPaper : SupScope ["self", "row", "reason"] ["self", "row", "reason"] (defScope i_BadPaper) := ⟨rfl, rfl, rfl, by decide +kernel, rfl, by decide +kernel, by decide +kernel, by decide +kernel, by decide +kernel, by decide +kernel⟩
abbrev i_BadRides : Stmt := inClass (topS 8) 0
theorem si_BadRides : SupScope ["self", "place"] ["self", "place"] (defScope i_BadRides) := ⟨rfl, rfl, rfl, by decide +kernel, rfl, by decide +kernel, by decide +kernel, by decide +kernel, by decide +kernel, by decide +kernel⟩
abbrev i_BadText : Stmt := inClass (topS 9) 0
theorem si_BadText : SupScope ["self", "line"] ["self", "line"] (defScope i_BadText) := ⟨rfl, rfl, rfl, by decide +kernel, rfl, by decide +kernel, by decide +kernel, by decide +kernel, by decide +kernel, by decide +kernel⟩
abbrev i_BadDeed : Stmt := inClass (topS 10) 0
theorem si_BadDeed : SupScope ["self", "place"] ["self", "place"] (defScope i_BadDeed) := ⟨rfl, rfl, rfl, by decide +kernel, rfl, by decide +kernel, by decide +kernel, by decide +kernel, by decide +kernel, by decide +kernel⟩
abbrev i_TooMany : Stmt := inClass (topS 11) 0
theorem si_TooMany : SupScope ["self", "limit"] ["self", "limit"] (defScope i_TooMany) := ⟨rfl, rfl, rfl, by decide +kernel, rfl, by decide +kernel, by decide +kernel, by decide +kernel, by decide +kernel, by decide +kernel⟩
theorem all_mk {P : Program} {w : World} {K : PySem.W.Frag} {h : Heap} {mg : Str → Option Value} {fa : Addr} (X : K.In h) (Gn : h.Ns mainGlobals mg) (hfa : mg "law" = some (.ref fa)) (hfile : ((P.main.file : Str) == ("/claim/cut.py" : Str)) = true) (htop : (P.main.scope.names.lookup ("super" : Str)).isSome = false)
    {C_CalendarError : Addr}
    {C_BadName : Addr}
    {C_BadNumber : Addr}
    {C_BadRows : Addr}
    {C_BadWay : Addr}
    {C_BadRing : Addr}
    {C_BadPaper : Addr}
    {C_BadRides : Addr}
    {C_BadText : Addr}
    {C_BadDeed : Addr}
    {C_TooMany : Addr}
    {C_NotKept : Addr}
    {C_NothingToUndo : Addr}
    {nm_CalendarError qn_CalendarError : Str} {N_CalendarError : Addr} {bs_CalendarError bm_CalendarError : List Value} {sn_CalendarError : List Str} {sub_CalendarError : List Value} {ab_CalendarError : Bool} {col_CalendarError : Option Bool} {dd_CalendarError : Option Addr} {m0_CalendarError m1_CalendarError m2_CalendarError m3_CalendarError m5_CalendarError : Option Value}
    {nm_BadName qn_BadName : Str} {N_BadName : Addr} {bs_BadName : List Value} {sn_BadName : List Str} {sub_BadName : List Value} {ab_BadName : Bool} {col_BadName : Option Bool} {dd_BadName : Option Addr} {m0_BadName m1_BadName m2_BadName m3_BadName m5_BadName : Option Value}
    {nm_BadNumber qn_BadNumber : Str} {N_BadNumber : Addr} {bs_BadNumber : List Value} {sn_BadNumber : List Str} {sub_BadNumber : List Value} {ab_BadNumber : Bool} {col_BadNumber : Option Bool} {dd_BadNumber : Option Addr} {m0_BadNumber m1_BadNumber m2_BadNumber m3_BadNumber m5_BadNumber : Option Value}
    {nm_BadRows qn_BadRows : Str} {N_BadRows : Addr} {bs_BadRows : List Value} {sn_BadRows : List Str} {sub_BadRows : List Value} {ab_BadRows : Bool} {col_BadRows : Option Bool} {dd_BadRows : Option Addr} {m0_BadRows m1_BadRows m2_BadRows m3_BadRows m5_BadRows : Option Value}
    {nm_BadWay qn_BadWay : Str} {N_BadWay : Addr} {bs_BadWay : List Value} {sn_BadWay : List Str} {sub_BadWay : List Value} {ab_BadWay : Bool} {col_BadWay : Option Bool} {dd_BadWay : Option Addr} {m0_BadWay m1_BadWay m2_BadWay m3_BadWay m5_BadWay : Option Value}
    {nm_BadRing qn_BadRing : Str} {N_BadRing : Addr} {bs_BadRing : List Value} {sn_BadRing : List Str} {sub_BadRing : List Value} {ab_BadRing : Bool} {col_BadRing : Option Bool} {dd_BadRing : Option Addr} {m0_BadRing m1_BadRing m2_BadRing m3_BadRing m5_BadRing : Option Value}
    {nm_BadPaper qn_BadPaper : Str} {N_BadPaper : Addr} {bs_BadPaper : List Value} {sn_BadPaper : List Str} {sub_BadPaper : List Value} {ab_BadPaper : Bool} {col_BadPaper : Option Bool} {dd_BadPaper : Option Addr} {m0_BadPaper m1_BadPaper m2_BadPaper m3_BadPaper m5_BadPaper : Option Value}
    {nm_BadRides qn_BadRides : Str} {N_BadRides : Addr} {bs_BadRides : List Value} {sn_BadRides : List Str} {sub_BadRides : List Value} {ab_BadRides : Bool} {col_BadRides : Option Bool} {dd_BadRides : Option Addr} {m0_BadRides m1_BadRides m2_BadRides m3_BadRides m5_BadRides : Option Value}
    {nm_BadText qn_BadText : Str} {N_BadText : Addr} {bs_BadText : List Value} {sn_BadText : List Str} {sub_BadText : List Value} {ab_BadText : Bool} {col_BadText : Option Bool} {dd_BadText : Option Addr} {m0_BadText m1_BadText m2_BadText m3_BadText m5_BadText : Option Value}
    {nm_BadDeed qn_BadDeed : Str} {N_BadDeed : Addr} {bs_BadDeed : List Value} {sn_BadDeed : List Str} {sub_BadDeed : List Value} {ab_BadDeed : Bool} {col_BadDeed : Option Bool} {dd_BadDeed : Option Addr} {m0_BadDeed m1_BadDeed m2_BadDeed m3_BadDeed m5_BadDeed : Option Value}
    {nm_TooMany qn_TooMany : Str} {N_TooMany : Addr} {bs_TooMany : List Value} {sn_TooMany : List Str} {sub_TooMany : List Value} {ab_TooMany : Bool} {col_TooMany : Option Bool} {dd_TooMany : Option Addr} {m0_TooMany m1_TooMany m2_TooMany m3_TooMany m5_TooMany : Option Value}
    {nm_NotKept qn_NotKept : Str} {N_NotKept : Addr} {bs_NotKept : List Value} {sn_NotKept : List Str} {sub_NotKept : List Value} {ab_NotKept : Bool} {col_NotKept : Option Bool} {dd_NotKept : Option Addr} {m0_NotKept m1_NotKept m2_NotKept m3_NotKept m5_NotKept : Option Value}
    {nm_NothingToUndo qn_NothingToUndo : Str} {N_NothingToUndo : Addr} {bs_NothingToUndo : List Value} {sn_NothingToUndo : List Str} {sub_NothingToUndo : List Value} {ab_NothingToUndo : Bool} {col_NothingToUndo : Option Bool} {dd_NothingToUndo : Option Addr} {m0_NothingToUndo m1_NothingToUndo m2_NothingToUndo m3_NothingToUndo m5_NothingToUndo : Option Value}
    {fI_BadName cc_BadName cda_BadName : Addr} {oc_BadName kV_BadName dc_BadName pm_BadName ct_BadName : Value} {od_BadName an_BadName : Option Addr} {sl_BadName : Array (Option Value)} {ccl_BadName : Value} {cdd_BadName : Option Addr} {vs_BadName : Array Value} {ccs_BadName : Array (Option Value)} {tf_BadName : Tok} {cl2_BadName : Value} {cld_BadName : Option Addr} {csl_BadName : Array (Option Value)}
    {fI_BadNumber cc_BadNumber cda_BadNumber : Addr} {oc_BadNumber kV_BadNumber dc_BadNumber pm_BadNumber ct_BadNumber : Value} {od_BadNumber an_BadNumber : Option Addr} {sl_BadNumber : Array (Option Value)} {ccl_BadNumber : Value} {cdd_BadNumber : Option Addr} {vs_BadNumber : Array Value} {ccs_BadNumber : Array (Option Value)} {tf_BadNumber : Tok} {cl2_BadNumber : Value} {cld_BadNumber : Option Addr} {csl_BadNumber : Array (Option Value)}
    {fI_BadRows cc_BadRows cda_BadRows : Addr} {oc_BadRows kV_BadRows dc_BadRows pm_BadRows ct_BadRows : Value} {od_BadRows an_BadRows : Option Addr} {sl_BadRows : Array (Option Value)} {ccl_BadRows : Value} {cdd_BadRows : Option Addr} {vs_BadRows : Array Value} {ccs_BadRows : Array (Option Value)} {tf_BadRows : Tok} {cl2_BadRows : Value} {cld_BadRows : Option Addr} {csl_BadRows : Array (Option Value)}
    {fI_BadWay cc_BadWay cda_BadWay : Addr} {oc_BadWay kV_BadWay dc_BadWay pm_BadWay ct_BadWay : Value} {od_BadWay an_BadWay : Option Addr} {sl_BadWay : Array (Option Value)} {ccl_BadWay : Value} {cdd_BadWay : Option Addr} {vs_BadWay : Array Value} {ccs_BadWay : Array (Option Value)} {tf_BadWay : Tok} {cl2_BadWay : Value} {cld_BadWay : Option Addr} {csl_BadWay : Array (Option Value)}
    {fI_BadRing cc_BadRing cda_BadRing : Addr} {oc_BadRing kV_BadRing dc_BadRing pm_BadRing ct_BadRing : Value} {od_BadRing an_BadRing : Option Addr} {sl_BadRing : Array (Option Value)} {ccl_BadRing : Value} {cdd_BadRing : Option Addr} {vs_BadRing : Array Value} {ccs_BadRing : Array (Option Value)} {tf_BadRing : Tok} {cl2_BadRing : Value} {cld_BadRing : Option Addr} {csl_BadRing : Array (Option Value)}
    {fI_BadPaper cc_BadPaper cda_BadPaper : Addr} {oc_BadPaper kV_BadPaper dc_BadPaper pm_BadPaper ct_BadPaper : Value} {od_BadPaper an_BadPaper : Option Addr} {sl_BadPaper : Array (Option Value)} {ccl_BadPaper : Value} {cdd_BadPaper : Option Addr} {vs_BadPaper : Array Value} {ccs_BadPaper : Array (Option Value)} {tf_BadPaper : Tok} {cl2_BadPaper : Value} {cld_BadPaper : Option Addr} {csl_BadPaper : Array (Option Value)}
    {fI_BadRides cc_BadRides cda_BadRides : Addr} {oc_BadRides kV_BadRides dc_BadRides pm_BadRides ct_BadRides : Value} {od_BadRides an_BadRides : Option Addr} {sl_BadRides : Array (Option Value)} {ccl_BadRides : Value} {cdd_BadRides : Option Addr} {vs_BadRides : Array Value} {ccs_BadRides : Array (Option Value)} {tf_BadRides : Tok} {cl2_BadRides : Value} {cld_BadRides : Option Addr} {csl_BadRides : Array (Option Value)}
    {fI_BadText cc_BadText cda_BadText : Addr} {oc_BadText kV_BadText dc_BadText pm_BadText ct_BadText : Value} {od_BadText an_BadText : Option Addr} {sl_BadText : Array (Option Value)} {ccl_BadText : Value} {cdd_BadText : Option Addr} {vs_BadText : Array Value} {ccs_BadText : Array (Option Value)} {tf_BadText : Tok} {cl2_BadText : Value} {cld_BadText : Option Addr} {csl_BadText : Array (Option Value)}
    {fI_BadDeed cc_BadDeed cda_BadDeed : Addr} {oc_BadDeed kV_BadDeed dc_BadDeed pm_BadDeed ct_BadDeed : Value} {od_BadDeed an_BadDeed : Option Addr} {sl_BadDeed : Array (Option Value)} {ccl_BadDeed : Value} {cdd_BadDeed : Option Addr} {vs_BadDeed : Array Value} {ccs_BadDeed : Array (Option Value)} {tf_BadDeed : Tok} {cl2_BadDeed : Value} {cld_BadDeed : Option Addr} {csl_BadDeed : Array (Option Value)}
    {fI_TooMany cc_TooMany cda_TooMany : Addr} {oc_TooMany kV_TooMany dc_TooMany pm_TooMany ct_TooMany : Value} {od_TooMany an_TooMany : Option Addr} {sl_TooMany : Array (Option Value)} {ccl_TooMany : Value} {cdd_TooMany : Option Addr} {vs_TooMany : Array Value} {ccs_TooMany : Array (Option Value)} {tf_TooMany : Tok} {cl2_TooMany : Value} {cld_TooMany : Option Addr} {csl_TooMany : Array (Option Value)}
    {f__law_start : Addr} {od__law_start an__law_start : Option Addr} {sl__law_start : Array (Option Value)} {oc__law_start kV__law_start dc__law_start pm__law_start cd__law_start ct__law_start : Value}
    {f__law_draw : Addr} {od__law_draw an__law_draw : Option Addr} {sl__law_draw : Array (Option Value)} {oc__law_draw kV__law_draw dc__law_draw pm__law_draw cd__law_draw ct__law_draw : Value}
    {f__law_kinds : Addr} {od__law_kinds an__law_kinds : Option Addr} {sl__law_kinds : Array (Option Value)} {oc__law_kinds kV__law_kinds dc__law_kinds pm__law_kinds cd__law_kinds ct__law_kinds : Value}
    {f__law_throw : Addr} {od__law_throw an__law_throw : Option Addr} {sl__law_throw : Array (Option Value)} {oc__law_throw kV__law_throw dc__law_throw pm__law_throw cd__law_throw ct__law_throw : Value}
    {f__law_caught : Addr} {od__law_caught an__law_caught : Option Addr} {sl__law_caught : Array (Option Value)} {oc__law_caught kV__law_caught dc__law_caught pm__law_caught cd__law_caught ct__law_caught : Value}
    {f__law_holds : Addr} {od__law_holds an__law_holds : Option Addr} {sl__law_holds : Array (Option Value)} {oc__law_holds kV__law_holds dc__law_holds pm__law_holds cd__law_holds ct__law_holds : Value}
    {f__law_values : Addr} {od__law_values an__law_values : Option Addr} {sl__law_values : Array (Option Value)} {oc__law_values kV__law_values dc__law_values pm__law_values cd__law_values ct__law_values : Value}
    {f_law : Addr} {od_law an_law : Option Addr} {sl_law : Array (Option Value)} {oc_law kV_law dc_law pm_law cd_law ct_law : Value}
    (z_ValueError : PySem.W.nsIn K mainGlobals "ValueError" = some none)
    (z_abs : PySem.W.nsIn K mainGlobals "abs" = some none)
    (z_int : PySem.W.nsIn K mainGlobals "int" = some none)
    (z_isinstance : PySem.W.nsIn K mainGlobals "isinstance" = some none)
    (z_len : PySem.W.nsIn K mainGlobals "len" = some none)
    (z_list : PySem.W.nsIn K mainGlobals "list" = some none)
    (z_range : PySem.W.nsIn K mainGlobals "range" = some none)
    (z_super : PySem.W.nsIn K mainGlobals "super" = some none)
    (z_tp : PySem.W.nsIn K cStatics "thirdparty.any" = some none)
    (x_hn : PySem.W.specialIn K (.builtin "object.__class__") "__get__" = some (some (.builtin "getset_descriptor.__get__")))
    (x_ht : PySem.W.takesIn K (.builtin "object.__class__") = some true)
    (aC_CalendarError : PySem.W.nsIn K mainGlobals "CalendarError" = some (some (.ref C_CalendarError)))
    (aC_BadName : PySem.W.nsIn K mainGlobals "BadName" = some (some (.ref C_BadName)))
    (aC_BadNumber : PySem.W.nsIn K mainGlobals "BadNumber" = some (some (.ref C_BadNumber)))
    (aC_BadRows : PySem.W.nsIn K mainGlobals "BadRows" = some (some (.ref C_BadRows)))
    (aC_BadWay : PySem.W.nsIn K mainGlobals "BadWay" = some (some (.ref C_BadWay)))
    (aC_BadRing : PySem.W.nsIn K mainGlobals "BadRing" = some (some (.ref C_BadRing)))
    (aC_BadPaper : PySem.W.nsIn K mainGlobals "BadPaper" = some (some (.ref C_BadPaper)))
    (aC_BadRides : PySem.W.nsIn K mainGlobals "BadRides" = some (some (.ref C_BadRides)))
    (aC_BadText : PySem.W.nsIn K mainGlobals "BadText" = some (some (.ref C_BadText)))
    (aC_BadDeed : PySem.W.nsIn K mainGlobals "BadDeed" = some (some (.ref C_BadDeed)))
    (aC_TooMany : PySem.W.nsIn K mainGlobals "TooMany" = some (some (.ref C_TooMany)))
    (aC_NotKept : PySem.W.nsIn K mainGlobals "NotKept" = some (some (.ref C_NotKept)))
    (aC_NothingToUndo : PySem.W.nsIn K mainGlobals "NothingToUndo" = some (some (.ref C_NothingToUndo)))
    (xL_CalendarError : K.lookup C_CalendarError = some (excClassObj nm_CalendarError qn_CalendarError C_CalendarError N_CalendarError bs_CalendarError bm_CalendarError true sn_CalendarError sub_CalendarError ab_CalendarError col_CalendarError dd_CalendarError m0_CalendarError m1_CalendarError m2_CalendarError m3_CalendarError m5_CalendarError "ValueError.__new__"))
    (eC_CalendarError : PySem.W.subIn K (.ref C_CalendarError) (.type "BaseException") = some true)
    (tC_CalendarError : PySem.W.typeIn K (.ref C_CalendarError) = some (.type "type"))
    (cl_CalendarError : PySem.W.isClsIn K C_CalendarError = true)
    (mr_CalendarError : PySem.W.mroIn K C_CalendarError (.ref C_CalendarError) = some true)
    (sb_CalendarError_BadName : PySem.W.subIn K (.ref C_BadName) (.ref C_CalendarError) = some true)
    (sb_CalendarError_BadNumber : PySem.W.subIn K (.ref C_BadNumber) (.ref C_CalendarError) = some true)
    (sb_CalendarError_BadRows : PySem.W.subIn K (.ref C_BadRows) (.ref C_CalendarError) = some true)
    (sb_CalendarError_BadWay : PySem.W.subIn K (.ref C_BadWay) (.ref C_CalendarError) = some true)
    (sb_CalendarError_BadRing : PySem.W.subIn K (.ref C_BadRing) (.ref C_CalendarError) = some true)
    (sb_CalendarError_BadPaper : PySem.W.subIn K (.ref C_BadPaper) (.ref C_CalendarError) = some true)
    (sb_CalendarError_BadRides : PySem.W.subIn K (.ref C_BadRides) (.ref C_CalendarError) = some true)
    (sb_CalendarError_BadText : PySem.W.subIn K (.ref C_BadText) (.ref C_CalendarError) = some true)
    (sb_CalendarError_BadDeed : PySem.W.subIn K (.ref C_BadDeed) (.ref C_CalendarError) = some true)
    (sb_CalendarError_TooMany : PySem.W.subIn K (.ref C_TooMany) (.ref C_CalendarError) = some true)
    (sb_CalendarError_NotKept : PySem.W.subIn K (.ref C_NotKept) (.ref C_CalendarError) = some true)
    (sb_CalendarError_NothingToUndo : PySem.W.subIn K (.ref C_NothingToUndo) (.ref C_CalendarError) = some true)
    (xL_BadName : K.lookup C_BadName = some (excClassObj nm_BadName qn_BadName C_BadName N_BadName bs_BadName (.ref C_CalendarError :: bm_CalendarError) true sn_BadName sub_BadName ab_BadName col_BadName dd_BadName m0_BadName m1_BadName m2_BadName m3_BadName m5_BadName "ValueError.__new__"))
    (eC_BadName : PySem.W.subIn K (.ref C_BadName) (.type "BaseException") = some true)
    (tC_BadName : PySem.W.typeIn K (.ref C_BadName) = some (.type "type"))
    (cl_BadName : PySem.W.isClsIn K C_BadName = true)
    (mr_BadName : PySem.W.mroIn K C_BadName (.ref C_BadName) = some true)
    (sb_BadName_BadName : PySem.W.subIn K (.ref C_BadName) (.ref C_BadName) = some true)
    (sb_BadName_BadNumber : PySem.W.subIn K (.ref C_BadNumber) (.ref C_BadName) = some false)
    (sb_BadName_BadRows : PySem.W.subIn K (.ref C_BadRows) (.ref C_BadName) = some false)
    (sb_BadName_BadWay : PySem.W.subIn K (.ref C_BadWay) (.ref C_BadName) = some false)
    (sb_BadName_BadRing : PySem.W.subIn K (.ref C_BadRing) (.ref C_BadName) = some false)
    (sb_BadName_BadPaper : PySem.W.subIn K (.ref C_BadPaper) (.ref C_BadName) = some false)
    (sb_BadName_BadRides : PySem.W.subIn K (.ref C_BadRides) (.ref C_BadName) = some false)
    (sb_BadName_BadText : PySem.W.subIn K (.ref C_BadText) (.ref C_BadName) = some false)
    (sb_BadName_BadDeed : PySem.W.subIn K (.ref C_BadDeed) (.ref C_BadName) = some false)
    (sb_BadName_TooMany : PySem.W.subIn K (.ref C_TooMany) (.ref C_BadName) = some false)
    (sb_BadName_NotKept : PySem.W.subIn K (.ref C_NotKept) (.ref C_BadName) = some false)
    (sb_BadName_NothingToUndo : PySem.W.subIn K (.ref C_NothingToUndo) (.ref C_BadName) = some false)
    (xL_BadNumber : K.lookup C_BadNumber = some (excClassObj nm_BadNumber qn_BadNumber C_BadNumber N_BadNumber bs_BadNumber (.ref C_CalendarError :: bm_CalendarError) true sn_BadNumber sub_BadNumber ab_BadNumber col_BadNumber dd_BadNumber m0_BadNumber m1_BadNumber m2_BadNumber m3_BadNumber m5_BadNumber "ValueError.__new__"))
    (eC_BadNumber : PySem.W.subIn K (.ref C_BadNumber) (.type "BaseException") = some true)
    (tC_BadNumber : PySem.W.typeIn K (.ref C_BadNumber) = some (.type "type"))
    (cl_BadNumber : PySem.W.isClsIn K C_BadNumber = true)
    (mr_BadNumber : PySem.W.mroIn K C_BadNumber (.ref C_BadNumber) = some true)
    (sb_BadNumber_BadName : PySem.W.subIn K (.ref C_BadName) (.ref C_BadNumber) = some false)
    (sb_BadNumber_BadNumber : PySem.W.subIn K (.ref C_BadNumber) (.ref C_BadNumber) = some true)
    (sb_BadNumber_BadRows : PySem.W.subIn K (.ref C_BadRows) (.ref C_BadNumber) = some false)
    (sb_BadNumber_BadWay : PySem.W.subIn K (.ref C_BadWay) (.ref C_BadNumber) = some false)
    (sb_BadNumber_BadRing : PySem.W.subIn K (.ref C_BadRing) (.ref C_BadNumber) = some false)
    (sb_BadNumber_BadPaper : PySem.W.subIn K (.ref C_BadPaper) (.ref C_BadNumber) = some false)
    (sb_BadNumber_BadRides : PySem.W.subIn K (.ref C_BadRides) (.ref C_BadNumber) = some false)
    (sb_BadNumber_BadText : PySem.W.subIn K (.ref C_BadText) (.ref C_BadNumber) = some false)
    (sb_BadNumber_BadDeed : PySem.W.subIn K (.ref C_BadDeed) (.ref C_BadNumber) = some false)
    (sb_BadNumber_TooMany : PySem.W.subIn K (.ref C_TooMany) (.ref C_BadNumber) = some false)
    (sb_BadNumber_NotKept : PySem.W.subIn K (.ref C_NotKept) (.ref C_BadNumber) = some false)
    (sb_BadNumber_NothingToUndo : PySem.W.subIn K (.ref C_NothingToUndo) (.ref C_BadNumber) = some false)
    (xL_BadRows : K.lookup C_BadRows = some (excClassObj nm_BadRows qn_BadRows C_BadRows N_BadRows bs_BadRows (.ref C_CalendarError :: bm_CalendarError) true sn_BadRows sub_BadRows ab_BadRows col_BadRows dd_BadRows m0_BadRows m1_BadRows m2_BadRows m3_BadRows m5_BadRows "ValueError.__new__"))
    (eC_BadRows : PySem.W.subIn K (.ref C_BadRows) (.type "BaseException") = some true)
    (tC_BadRows : PySem.W.typeIn K (.ref C_BadRows) = some (.type "type"))
    (cl_BadRows : PySem.W.isClsIn K C_BadRows = true)
    (mr_BadRows : PySem.W.mroIn K C_BadRows (.ref C_BadRows) = some true)
    (sb_BadRows_BadName : PySem.W.subIn K (.ref C_BadName) (.ref C_BadRows) = some false)
    (sb_BadRows_BadNumber : PySem.W.subIn K (.ref C_BadNumber) (.ref C_BadRows) = some false)
    (sb_BadRows_BadRows : PySem.W.subIn K (.ref C_BadRows) (.ref C_BadRows) = some true)
    (sb_BadRows_BadWay : PySem.W.subIn K (.ref C_BadWay) (.ref C_BadRows) = some false)
    (sb_BadRows_BadRing : PySem.W.subIn K (.ref C_BadRing) (.ref C_BadRows) = some false)
    (sb_BadRows_BadPaper : PySem.W.subIn K (.ref C_BadPaper) (.ref C_BadRows) = some false)
    (sb_BadRows_BadRides : PySem.W.subIn K (.ref C_BadRides) (.ref C_BadRows) = some false)
    (sb_BadRows_BadText : PySem.W.subIn K (.ref C_BadText) (.ref C_BadRows) = some false)
    (sb_BadRows_BadDeed : PySem.W.subIn K (.ref C_BadDeed) (.ref C_BadRows) = some false)
    (sb_BadRows_TooMany : PySem.W.subIn K (.ref C_TooMany) (.ref C_BadRows) = some false)
    (sb_BadRows_NotKept : PySem.W.subIn K (.ref C_NotKept) (.ref C_BadRows) = some false)
    (sb_BadRows_NothingToUndo : PySem.W.subIn K (.ref C_NothingToUndo) (.ref C_BadRows) = some false)
    (xL_BadWay : K.lookup C_BadWay = some (excClassObj nm_BadWay qn_BadWay C_BadWay N_BadWay bs_BadWay (.ref C_CalendarError :: bm_CalendarError) true sn_BadWay sub_BadWay ab_BadWay col_BadWay dd_BadWay m0_BadWay m1_BadWay m2_BadWay m3_BadWay m5_BadWay "ValueError.__new__"))
    (eC_BadWay : PySem.W.subIn K (.ref C_BadWay) (.type "BaseException") = some true)
    (tC_BadWay : PySem.W.typeIn K (.ref C_BadWay) = some (.type "type"))
    (cl_BadWay : PySem.W.isClsIn K C_BadWay = true)
    (mr_BadWay : PySem.W.mroIn K C_BadWay (.ref C_BadWay) = some true)
    (sb_BadWay_BadName : PySem.W.subIn K (.ref C_BadName) (.ref C_BadWay) = some false)
    (sb_BadWay_BadNumber : PySem.W.subIn K (.ref C_BadNumber) (.ref C_BadWay) = some false)
    (sb_BadWay_BadRows : PySem.W.subIn K (.ref C_BadRows) (.ref C_BadWay) = some false)
    (sb_BadWay_BadWay : PySem.W.subIn K (.ref C_BadWay) (.ref C_BadWay) = some true)
    (sb_BadWay_BadRing : PySem.W.subIn K (.ref C_BadRing) (.ref C_BadWay) = some false)
    (sb_BadWay_BadPaper : PySem.W.subIn K (.ref C_BadPaper) (.ref C_BadWay) = some false)
    (sb_BadWay_BadRides : PySem.W.subIn K (.ref C_BadRides) (.ref C_BadWay) = some false)
    (sb_BadWay_BadText : PySem.W.subIn K (.ref C_BadText) (.ref C_BadWay) = some false)
    (sb_BadWay_BadDeed : PySem.W.subIn K (.ref C_BadDeed) (.ref C_BadWay) = some false)
    (sb_BadWay_TooMany : PySem.W.subIn K (.ref C_TooMany) (.ref C_BadWay) = some false)
    (sb_BadWay_NotKept : PySem.W.subIn K (.ref C_NotKept) (.ref C_BadWay) = some false)
    (sb_BadWay_NothingToUndo : PySem.W.subIn K (.ref C_NothingToUndo) (.ref C_BadWay) = some false)
    (xL_BadRing : K.lookup C_BadRing = some (excClassObj nm_BadRing qn_BadRing C_BadRing N_BadRing bs_BadRing (.ref C_CalendarError :: bm_CalendarError) true sn_BadRing sub_BadRing ab_BadRing col_BadRing dd_BadRing m0_BadRing m1_BadRing m2_BadRing m3_BadRing m5_BadRing "ValueError.__new__"))
    (eC_BadRing : PySem.W.subIn K (.ref C_BadRing) (.type "BaseException") = some true)
    (tC_BadRing : PySem.W.typeIn K (.ref C_BadRing) = some (.type "type"))
    (cl_BadRing : PySem.W.isClsIn K C_BadRing = true)
    (mr_BadRing : PySem.W.mroIn K C_BadRing (.ref C_BadRing) = some true)
    (sb_BadRing_BadName : PySem.W.subIn K (.ref C_BadName) (.ref C_BadRing) = some false)
    (sb_BadRing_BadNumber : PySem.W.subIn K (.ref C_BadNumber) (.ref C_BadRing) = some false)
    (sb_BadRing_BadRows : PySem.W.subIn K (.ref C_BadRows) (.ref C_BadRing) = some false)
    (sb_BadRing_BadWay : PySem.W.subIn K (.ref C_BadWay) (.ref C_BadRing) = some false)
    (sb_BadRing_BadRing : PySem.W.subIn K (.ref C_BadRing) (.ref C_BadRing) = some true)
    (sb_BadRing_BadPaper : PySem.W.subIn K (.ref C_BadPaper) (.ref C_BadRing) = some false)
    (sb_BadRing_BadRides : PySem.W.subIn K (.ref C_BadRides) (.ref C_BadRing) = some false)
    (sb_BadRing_BadText : PySem.W.subIn K (.ref C_BadText) (.ref C_BadRing) = some false)
    (sb_BadRing_BadDeed : PySem.W.subIn K (.ref C_BadDeed) (.ref C_BadRing) = some false)
    (sb_BadRing_TooMany : PySem.W.subIn K (.ref C_TooMany) (.ref C_BadRing) = some false)
    (sb_BadRing_NotKept : PySem.W.subIn K (.ref C_NotKept) (.ref C_BadRing) = some false)
    (sb_BadRing_NothingToUndo : PySem.W.subIn K (.ref C_NothingToUndo) (.ref C_BadRing) = some false)
    (xL_BadPaper : K.lookup C_BadPaper = some (excClassObj nm_BadPaper qn_BadPaper C_BadPaper N_BadPaper bs_BadPaper (.ref C_CalendarError :: bm_CalendarError) true sn_BadPaper sub_BadPaper ab_BadPaper col_BadPaper dd_BadPaper m0_BadPaper m1_BadPaper m2_BadPaper m3_BadPaper m5_BadPaper "ValueError.__new__"))
    (eC_BadPaper : PySem.W.subIn K (.ref C_BadPaper) (.type "BaseException") = some true)
    (tC_BadPaper : PySem.W.typeIn K (.ref C_BadPaper) = some (.type "type"))
    (cl_BadPaper : PySem.W.isClsIn K C_BadPaper = true)
    (mr_BadPaper : PySem.W.mroIn K C_BadPaper (.ref C_BadPaper) = some true)
    (sb_BadPaper_BadName : PySem.W.subIn K (.ref C_BadName) (.ref C_BadPaper) = some false)
    (sb_BadPaper_BadNumber : PySem.W.subIn K (.ref C_BadNumber) (.ref C_BadPaper) = some false)
    (sb_BadPaper_BadRows : PySem.W.subIn K (.ref C_BadRows) (.ref C_BadPaper) = some false)
    (sb_BadPaper_BadWay : PySem.W.subIn K (.ref C_BadWay) (.ref C_BadPaper) = some false)
    (sb_BadPaper_BadRing : PySem.W.subIn K (.ref C_BadRing) (.ref C_BadPaper) = some false)
    (sb_BadPaper_BadPaper : PySem.W.subIn K (.ref C_BadPaper) (.ref C_BadPaper) = some true)
    (sb_BadPaper_BadRides : PySem.W.subIn K (.ref C_BadRides) (.ref C_BadPaper) = some false)
    (sb_BadPaper_BadText : PySem.W.subIn K (.ref C_BadText) (.ref C_BadPaper) = some false)
    (sb_BadPaper_BadDeed : PySem.W.subIn K (.ref C_BadDeed) (.ref C_BadPaper) = some false)
    (sb_BadPaper_TooMany : PySem.W.subIn K (.ref C_TooMany) (.ref C_BadPaper) = some false)
    (sb_BadPaper_NotKept : PySem.W.subIn K (.ref C_NotKept) (.ref C_BadPaper) = some false)
    (sb_BadPaper_NothingToUndo : PySem.W.subIn K (.ref C_NothingToUndo) (.ref C_BadPaper) = some false)
    (xL_BadRides : K.lookup C_BadRides = some (excClassObj nm_BadRides qn_BadRides C_BadRides N_BadRides bs_BadRides (.ref C_CalendarError :: bm_CalendarError) true sn_BadRides sub_BadRides ab_BadRides col_BadRides dd_BadRides m0_BadRides m1_BadRides m2_BadRides m3_BadRides m5_BadRides "ValueError.__new__"))
    (eC_BadRides : PySem.W.subIn K (.ref C_BadRides) (.type "BaseException") = some true)
    (tC_BadRides : PySem.W.typeIn K (.ref C_BadRides) = some (.type "type"))
    (cl_BadRides : PySem.W.isClsIn K C_BadRides = true)
    (mr_BadRides : PySem.W.mroIn K C_BadRides (.ref C_BadRides) = some true)
    (sb_BadRides_BadName : PySem.W.subIn K (.ref C_BadName) (.ref C_BadRides) = some false)
    (sb_BadRides_BadNumber : PySem.W.subIn K (.ref C_BadNumber) (.ref C_BadRides) = some false)
    (sb_BadRides_BadRows : PySem.W.subIn K (.ref C_BadRows) (.ref C_BadRides) = some false)
    (sb_BadRides_BadWay : PySem.W.subIn K (.ref C_BadWay) (.ref C_BadRides) = some false)
    (sb_BadRides_BadRing : PySem.W.subIn K (.ref C_BadRing) (.ref C_BadRides) = some false)
    (sb_BadRides_BadPaper : PySem.W.subIn K (.ref C_BadPaper) (.ref C_BadRides) = some false)
    (sb_BadRides_BadRides : PySem.W.subIn K (.ref C_BadRides) (.ref C_BadRides) = some true)
    (sb_BadRides_BadText : PySem.W.subIn K (.ref C_BadText) (.ref C_BadRides) = some false)
    (sb_BadRides_BadDeed : PySem.W.subIn K (.ref C_BadDeed) (.ref C_BadRides) = some false)
    (sb_BadRides_TooMany : PySem.W.subIn K (.ref C_TooMany) (.ref C_BadRides) = some false)
    (sb_BadRides_NotKept : PySem.W.subIn K (.ref C_NotKept) (.ref C_BadRides) = some false)
    (sb_BadRides_NothingToUndo : PySem.W.subIn K (.ref C_NothingToUndo) (.ref C_BadRides) = some false)
    (xL_BadText : K.lookup C_BadText = some (excClassObj nm_BadText qn_BadText C_BadText N_BadText bs_BadText (.ref C_CalendarError :: bm_CalendarError) true sn_BadText sub_BadText ab_BadText col_BadText dd_BadText m0_BadText m1_BadText m2_BadText m3_BadText m5_BadText "ValueError.__new__"))
    (eC_BadText : PySem.W.subIn K (.ref C_BadText) (.type "BaseException") = some true)
    (tC_BadText : PySem.W.typeIn K (.ref C_BadText) = some (.type "type"))
    (cl_BadText : PySem.W.isClsIn K C_BadText = true)
    (mr_BadText : PySem.W.mroIn K C_BadText (.ref C_BadText) = some true)
    (sb_BadText_BadName : PySem.W.subIn K (.ref C_BadName) (.ref C_BadText) = some false)
    (sb_BadText_BadNumber : PySem.W.subIn K (.ref C_BadNumber) (.ref C_BadText) = some false)
    (sb_BadText_BadRows : PySem.W.subIn K (.ref C_BadRows) (.ref C_BadText) = some false)
    (sb_BadText_BadWay : PySem.W.subIn K (.ref C_BadWay) (.ref C_BadText) = some false)
    (sb_BadText_BadRing : PySem.W.subIn K (.ref C_BadRing) (.ref C_BadText) = some false)
    (sb_BadText_BadPaper : PySem.W.subIn K (.ref C_BadPaper) (.ref C_BadText) = some false)
    (sb_BadText_BadRides : PySem.W.subIn K (.ref C_BadRides) (.ref C_BadText) = some false)
    (sb_BadText_BadText : PySem.W.subIn K (.ref C_BadText) (.ref C_BadText) = some true)
    (sb_BadText_BadDeed : PySem.W.subIn K (.ref C_BadDeed) (.ref C_BadText) = some false)
    (sb_BadText_TooMany : PySem.W.subIn K (.ref C_TooMany) (.ref C_BadText) = some false)
    (sb_BadText_NotKept : PySem.W.subIn K (.ref C_NotKept) (.ref C_BadText) = some false)
    (sb_BadText_NothingToUndo : PySem.W.subIn K (.ref C_NothingToUndo) (.ref C_BadText) = some false)
    (xL_BadDeed : K.lookup C_BadDeed = some (excClassObj nm_BadDeed qn_BadDeed C_BadDeed N_BadDeed bs_BadDeed (.ref C_CalendarError :: bm_CalendarError) true sn_BadDeed sub_BadDeed ab_BadDeed col_BadDeed dd_BadDeed m0_BadDeed m1_BadDeed m2_BadDeed m3_BadDeed m5_BadDeed "ValueError.__new__"))
    (eC_BadDeed : PySem.W.subIn K (.ref C_BadDeed) (.type "BaseException") = some true)
    (tC_BadDeed : PySem.W.typeIn K (.ref C_BadDeed) = some (.type "type"))
    (cl_BadDeed : PySem.W.isClsIn K C_BadDeed = true)
    (mr_BadDeed : PySem.W.mroIn K C_BadDeed (.ref C_BadDeed) = some true)
    (sb_BadDeed_BadName : PySem.W.subIn K (.ref C_BadName) (.ref C_BadDeed) = some false)
    (sb_BadDeed_BadNumber : PySem.W.subIn K (.ref C_BadNumber) (.ref C_BadDeed) = some false)
    (sb_BadDeed_BadRows : PySem.W.subIn K (.ref C_BadRows) (.ref C_BadDeed) = some false)
    (sb_BadDeed_BadWay : PySem.W.subIn K (.ref C_BadWay) (.ref C_BadDeed) = some false)
    (sb_BadDeed_BadRing : PySem.W.subIn K (.ref C_BadRing) (.ref C_BadDeed) = some false)
    (sb_BadDeed_BadPaper : PySem.W.subIn K (.ref C_BadPaper) (.ref C_BadDeed) = some false)
    (sb_BadDeed_BadRides : PySem.W.subIn K (.ref C_BadRides) (.ref C_BadDeed) = some false)
    (sb_BadDeed_BadText : PySem.W.subIn K (.ref C_BadText) (.ref C_BadDeed) = some false)
    (sb_BadDeed_BadDeed : PySem.W.subIn K (.ref C_BadDeed) (.ref C_BadDeed) = some true)
    (sb_BadDeed_TooMany : PySem.W.subIn K (.ref C_TooMany) (.ref C_BadDeed) = some false)
    (sb_BadDeed_NotKept : PySem.W.subIn K (.ref C_NotKept) (.ref C_BadDeed) = some false)
    (sb_BadDeed_NothingToUndo : PySem.W.subIn K (.ref C_NothingToUndo) (.ref C_BadDeed) = some false)
    (xL_TooMany : K.lookup C_TooMany = some (excClassObj nm_TooMany qn_TooMany C_TooMany N_TooMany bs_TooMany (.ref C_CalendarError :: bm_CalendarError) true sn_TooMany sub_TooMany ab_TooMany col_TooMany dd_TooMany m0_TooMany m1_TooMany m2_TooMany m3_TooMany m5_TooMany "ValueError.__new__"))
    (eC_TooMany : PySem.W.subIn K (.ref C_TooMany) (.type "BaseException") = some true)
    (tC_TooMany : PySem.W.typeIn K (.ref C_TooMany) = some (.type "type"))
    (cl_TooMany : PySem.W.isClsIn K C_TooMany = true)
    (mr_TooMany : PySem.W.mroIn K C_TooMany (.ref C_TooMany) = some true)
    (sb_TooMany_BadName : PySem.W.subIn K (.ref C_BadName) (.ref C_TooMany) = some false)
    (sb_TooMany_BadNumber : PySem.W.subIn K (.ref C_BadNumber) (.ref C_TooMany) = some false)
    (sb_TooMany_BadRows : PySem.W.subIn K (.ref C_BadRows) (.ref C_TooMany) = some false)
    (sb_TooMany_BadWay : PySem.W.subIn K (.ref C_BadWay) (.ref C_TooMany) = some false)
    (sb_TooMany_BadRing : PySem.W.subIn K (.ref C_BadRing) (.ref C_TooMany) = some false)
    (sb_TooMany_BadPaper : PySem.W.subIn K (.ref C_BadPaper) (.ref C_TooMany) = some false)
    (sb_TooMany_BadRides : PySem.W.subIn K (.ref C_BadRides) (.ref C_TooMany) = some false)
    (sb_TooMany_BadText : PySem.W.subIn K (.ref C_BadText) (.ref C_TooMany) = some false)
    (sb_TooMany_BadDeed : PySem.W.subIn K (.ref C_BadDeed) (.ref C_TooMany) = some false)
    (sb_TooMany_TooMany : PySem.W.subIn K (.ref C_TooMany) (.ref C_TooMany) = some true)
    (sb_TooMany_NotKept : PySem.W.subIn K (.ref C_NotKept) (.ref C_TooMany) = some false)
    (sb_TooMany_NothingToUndo : PySem.W.subIn K (.ref C_NothingToUndo) (.ref C_TooMany) = some false)
    (xL_NotKept : K.lookup C_NotKept = some (excClassObj nm_NotKept qn_NotKept C_NotKept N_NotKept bs_NotKept (.ref C_CalendarError :: bm_CalendarError) true sn_NotKept sub_NotKept ab_NotKept col_NotKept dd_NotKept m0_NotKept m1_NotKept m2_NotKept m3_NotKept m5_NotKept "ValueError.__new__"))
    (eC_NotKept : PySem.W.subIn K (.ref C_NotKept) (.type "BaseException") = some true)
    (tC_NotKept : PySem.W.typeIn K (.ref C_NotKept) = some (.type "type"))
    (cl_NotKept : PySem.W.isClsIn K C_NotKept = true)
    (mr_NotKept : PySem.W.mroIn K C_NotKept (.ref C_NotKept) = some true)
    (sb_NotKept_BadName : PySem.W.subIn K (.ref C_BadName) (.ref C_NotKept) = some false)
    (sb_NotKept_BadNumber : PySem.W.subIn K (.ref C_BadNumber) (.ref C_NotKept) = some false)
    (sb_NotKept_BadRows : PySem.W.subIn K (.ref C_BadRows) (.ref C_NotKept) = some false)
    (sb_NotKept_BadWay : PySem.W.subIn K (.ref C_BadWay) (.ref C_NotKept) = some false)
    (sb_NotKept_BadRing : PySem.W.subIn K (.ref C_BadRing) (.ref C_NotKept) = some false)
    (sb_NotKept_BadPaper : PySem.W.subIn K (.ref C_BadPaper) (.ref C_NotKept) = some false)
    (sb_NotKept_BadRides : PySem.W.subIn K (.ref C_BadRides) (.ref C_NotKept) = some false)
    (sb_NotKept_BadText : PySem.W.subIn K (.ref C_BadText) (.ref C_NotKept) = some false)
    (sb_NotKept_BadDeed : PySem.W.subIn K (.ref C_BadDeed) (.ref C_NotKept) = some false)
    (sb_NotKept_TooMany : PySem.W.subIn K (.ref C_TooMany) (.ref C_NotKept) = some false)
    (sb_NotKept_NotKept : PySem.W.subIn K (.ref C_NotKept) (.ref C_NotKept) = some true)
    (sb_NotKept_NothingToUndo : PySem.W.subIn K (.ref C_NothingToUndo) (.ref C_NotKept) = some false)
    (xL_NothingToUndo : K.lookup C_NothingToUndo = some (excClassObj nm_NothingToUndo qn_NothingToUndo C_NothingToUndo N_NothingToUndo bs_NothingToUndo (.ref C_CalendarError :: bm_CalendarError) true sn_NothingToUndo sub_NothingToUndo ab_NothingToUndo col_NothingToUndo dd_NothingToUndo m0_NothingToUndo m1_NothingToUndo m2_NothingToUndo m3_NothingToUndo m5_NothingToUndo "ValueError.__new__"))
    (eC_NothingToUndo : PySem.W.subIn K (.ref C_NothingToUndo) (.type "BaseException") = some true)
    (tC_NothingToUndo : PySem.W.typeIn K (.ref C_NothingToUndo) = some (.type "type"))
    (cl_NothingToUndo : PySem.W.isClsIn K C_NothingToUndo = true)
    (mr_NothingToUndo : PySem.W.mroIn K C_NothingToUndo (.ref C_NothingToUndo) = some true)
    (sb_NothingToUndo_BadName : PySem.W.subIn K (.ref C_BadName) (.ref C_NothingToUndo) = some false)
    (sb_NothingToUndo_BadNumber : PySem.W.subIn K (.ref C_BadNumber) (.ref C_NothingToUndo) = some false)
    (sb_NothingToUndo_BadRows : PySem.W.subIn K (.ref C_BadRows) (.ref C_NothingToUndo) = some false)
    (sb_NothingToUndo_BadWay : PySem.W.subIn K (.ref C_BadWay) (.ref C_NothingToUndo) = some false)
    (sb_NothingToUndo_BadRing : PySem.W.subIn K (.ref C_BadRing) (.ref C_NothingToUndo) = some false)
    (sb_NothingToUndo_BadPaper : PySem.W.subIn K (.ref C_BadPaper) (.ref C_NothingToUndo) = some false)
    (sb_NothingToUndo_BadRides : PySem.W.subIn K (.ref C_BadRides) (.ref C_NothingToUndo) = some false)
    (sb_NothingToUndo_BadText : PySem.W.subIn K (.ref C_BadText) (.ref C_NothingToUndo) = some false)
    (sb_NothingToUndo_BadDeed : PySem.W.subIn K (.ref C_BadDeed) (.ref C_NothingToUndo) = some false)
    (sb_NothingToUndo_TooMany : PySem.W.subIn K (.ref C_TooMany) (.ref C_NothingToUndo) = some false)
    (sb_NothingToUndo_NotKept : PySem.W.subIn K (.ref C_NotKept) (.ref C_NothingToUndo) = some false)
    (sb_NothingToUndo_NothingToUndo : PySem.W.subIn K (.ref C_NothingToUndo) (.ref C_NothingToUndo) = some true)
    (fi_CalendarError : PySem.W.findIn K (.ref C_CalendarError) "__init__" = some (some (.builtin "ValueError.__init__")))
    (rb_BadName : HandSPX.refsVE (.ref C_CalendarError :: bm_CalendarError) = true)
    (sa_BadName : PySem.W.findIn K (.ref C_BadName) "__setattr__" = some (some (.builtin "object.__setattr__")))
    (kC_BadName : PySem.W.keepIn K (.ref C_BadName) = true)
    (ga_BadName : PySem.W.findIn K (.ref C_BadName) "__getattribute__" = some (some (.builtin "BaseException.__getattribute__")))
    (gg_BadName : PySem.W.findIn K (.ref C_BadName) "__getattr__" = some none)
    (hd_BadName : PySem.W.hasDictIn K C_BadName = true)
    (ha_BadName : PySem.W.findIn K (.ref C_BadName) "__class__" = some (some (.builtin "object.__class__")))
    (hm_BadName : PySem.W.mroIn K C_BadName (.type "object") = some true)
    (sv_BadName : PySem.W.subIn K (.ref C_BadName) (.type "ValueError") = some true)
    (nf_BadName_name : PySem.W.findIn K (.ref C_BadName) "name" = some none)
    (rb_BadNumber : HandSPX.refsVE (.ref C_CalendarError :: bm_CalendarError) = true)
    (sa_BadNumber : PySem.W.findIn K (.ref C_BadNumber) "__setattr__" = some (some (.builtin "object.__setattr__")))
    (kC_BadNumber : PySem.W.keepIn K (.ref C_BadNumber) = true)
    (ga_BadNumber : PySem.W.findIn K (.ref C_BadNumber) "__getattribute__" = some (some (.builtin "BaseException.__getattribute__")))
    (gg_BadNumber : PySem.W.findIn K (.ref C_BadNumber) "__getattr__" = some none)
    (hd_BadNumber : PySem.W.hasDictIn K C_BadNumber = true)
    (ha_BadNumber : PySem.W.findIn K (.ref C_BadNumber) "__class__" = some (some (.builtin "object.__class__")))
    (hm_BadNumber : PySem.W.mroIn K C_BadNumber (.type "object") = some true)
    (sv_BadNumber : PySem.W.subIn K (.ref C_BadNumber) (.type "ValueError") = some true)
    (nf_BadNumber_what : PySem.W.findIn K (.ref C_BadNumber) "what" = some none)
    (nf_BadNumber_value : PySem.W.findIn K (.ref C_BadNumber) "value" = some none)
    (rb_BadRows : HandSPX.refsVE (.ref C_CalendarError :: bm_CalendarError) = true)
    (sa_BadRows : PySem.W.findIn K (.ref C_BadRows) "__setattr__" = some (some (.builtin "object.__setattr__")))
    (kC_BadRows : PySem.W.keepIn K (.ref C_BadRows) = true)
    (ga_BadRows : PySem.W.findIn K (.ref C_BadRows) "__getattribute__" = some (some (.builtin "BaseException.__getattribute__")))
    (gg_BadRows : PySem.W.findIn K (.ref C_BadRows) "__getattr__" = some none)
    (hd_BadRows : PySem.W.hasDictIn K C_BadRows = true)
    (ha_BadRows : PySem.W.findIn K (.ref C_BadRows) "__class__" = some (some (.builtin "object.__class__")))
    (hm_BadRows : PySem.W.mroIn K C_BadRows (.type "object") = some true)
    (sv_BadRows : PySem.W.subIn K (.ref C_BadRows) (.type "ValueError") = some true)
    (nf_BadRows_place : PySem.W.findIn K (.ref C_BadRows) "place" = some none)
    (rb_BadWay : HandSPX.refsVE (.ref C_CalendarError :: bm_CalendarError) = true)
    (sa_BadWay : PySem.W.findIn K (.ref C_BadWay) "__setattr__" = some (some (.builtin "object.__setattr__")))
    (kC_BadWay : PySem.W.keepIn K (.ref C_BadWay) = true)
    (ga_BadWay : PySem.W.findIn K (.ref C_BadWay) "__getattribute__" = some (some (.builtin "BaseException.__getattribute__")))
    (gg_BadWay : PySem.W.findIn K (.ref C_BadWay) "__getattr__" = some none)
    (hd_BadWay : PySem.W.hasDictIn K C_BadWay = true)
    (ha_BadWay : PySem.W.findIn K (.ref C_BadWay) "__class__" = some (some (.builtin "object.__class__")))
    (hm_BadWay : PySem.W.mroIn K C_BadWay (.type "object") = some true)
    (sv_BadWay : PySem.W.subIn K (.ref C_BadWay) (.type "ValueError") = some true)
    (nf_BadWay_start : PySem.W.findIn K (.ref C_BadWay) "start" = some none)
    (nf_BadWay_end : PySem.W.findIn K (.ref C_BadWay) "end" = some none)
    (rb_BadRing : HandSPX.refsVE (.ref C_CalendarError :: bm_CalendarError) = true)
    (sa_BadRing : PySem.W.findIn K (.ref C_BadRing) "__setattr__" = some (some (.builtin "object.__setattr__")))
    (kC_BadRing : PySem.W.keepIn K (.ref C_BadRing) = true)
    (ga_BadRing : PySem.W.findIn K (.ref C_BadRing) "__getattribute__" = some (some (.builtin "BaseException.__getattribute__")))
    (gg_BadRing : PySem.W.findIn K (.ref C_BadRing) "__getattr__" = some none)
    (hd_BadRing : PySem.W.hasDictIn K C_BadRing = true)
    (ha_BadRing : PySem.W.findIn K (.ref C_BadRing) "__class__" = some (some (.builtin "object.__class__")))
    (hm_BadRing : PySem.W.mroIn K C_BadRing (.type "object") = some true)
    (sv_BadRing : PySem.W.subIn K (.ref C_BadRing) (.type "ValueError") = some true)
    (nf_BadRing_names : PySem.W.findIn K (.ref C_BadRing) "names" = some none)
    (rb_BadPaper : HandSPX.refsVE (.ref C_CalendarError :: bm_CalendarError) = true)
    (sa_BadPaper : PySem.W.findIn K (.ref C_BadPaper) "__setattr__" = some (some (.builtin "object.__setattr__")))
    (kC_BadPaper : PySem.W.keepIn K (.ref C_BadPaper) = true)
    (ga_BadPaper : PySem.W.findIn K (.ref C_BadPaper) "__getattribute__" = some (some (.builtin "BaseException.__getattribute__")))
    (gg_BadPaper : PySem.W.findIn K (.ref C_BadPaper) "__getattr__" = some none)
    (hd_BadPaper : PySem.W.hasDictIn K C_BadPaper = true)
    (ha_BadPaper : PySem.W.findIn K (.ref C_BadPaper) "__class__" = some (some (.builtin "object.__class__")))
    (hm_BadPaper : PySem.W.mroIn K C_BadPaper (.type "object") = some true)
    (sv_BadPaper : PySem.W.subIn K (.ref C_BadPaper) (.type "ValueError") = some true)
    (nf_BadPaper_row : PySem.W.findIn K (.ref C_BadPaper) "row" = some none)
    (nf_BadPaper_reason : PySem.W.findIn K (.ref C_BadPaper) "reason" = some none)
    (rb_BadRides : HandSPX.refsVE (.ref C_CalendarError :: bm_CalendarError) = true)
    (sa_BadRides : PySem.W.findIn K (.ref C_BadRides) "__setattr__" = some (some (.builtin "object.__setattr__")))
    (kC_BadRides : PySem.W.keepIn K (.ref C_BadRides) = true)
    (ga_BadRides : PySem.W.findIn K (.ref C_BadRides) "__getattribute__" = some (some (.builtin "BaseException.__getattribute__")))
    (gg_BadRides : PySem.W.findIn K (.ref C_BadRides) "__getattr__" = some none)
    (hd_BadRides : PySem.W.hasDictIn K C_BadRides = true)
    (ha_BadRides : PySem.W.findIn K (.ref C_BadRides) "__class__" = some (some (.builtin "object.__class__")))
    (hm_BadRides : PySem.W.mroIn K C_BadRides (.type "object") = some true)
    (sv_BadRides : PySem.W.subIn K (.ref C_BadRides) (.type "ValueError") = some true)
    (nf_BadRides_place : PySem.W.findIn K (.ref C_BadRides) "place" = some none)
    (rb_BadText : HandSPX.refsVE (.ref C_CalendarError :: bm_CalendarError) = true)
    (sa_BadText : PySem.W.findIn K (.ref C_BadText) "__setattr__" = some (some (.builtin "object.__setattr__")))
    (kC_BadText : PySem.W.keepIn K (.ref C_BadText) = true)
    (ga_BadText : PySem.W.findIn K (.ref C_BadText) "__getattribute__" = some (some (.builtin "BaseException.__getattribute__")))
    (gg_BadText : PySem.W.findIn K (.ref C_BadText) "__getattr__" = some none)
    (hd_BadText : PySem.W.hasDictIn K C_BadText = true)
    (ha_BadText : PySem.W.findIn K (.ref C_BadText) "__class__" = some (some (.builtin "object.__class__")))
    (hm_BadText : PySem.W.mroIn K C_BadText (.type "object") = some true)
    (sv_BadText : PySem.W.subIn K (.ref C_BadText) (.type "ValueError") = some true)
    (nf_BadText_line : PySem.W.findIn K (.ref C_BadText) "line" = some none)
    (rb_BadDeed : HandSPX.refsVE (.ref C_CalendarError :: bm_CalendarError) = true)
    (sa_BadDeed : PySem.W.findIn K (.ref C_BadDeed) "__setattr__" = some (some (.builtin "object.__setattr__")))
    (kC_BadDeed : PySem.W.keepIn K (.ref C_BadDeed) = true)
    (ga_BadDeed : PySem.W.findIn K (.ref C_BadDeed) "__getattribute__" = some (some (.builtin "BaseException.__getattribute__")))
    (gg_BadDeed : PySem.W.findIn K (.ref C_BadDeed) "__getattr__" = some none)
    (hd_BadDeed : PySem.W.hasDictIn K C_BadDeed = true)
    (ha_BadDeed : PySem.W.findIn K (.ref C_BadDeed) "__class__" = some (some (.builtin "object.__class__")))
    (hm_BadDeed : PySem.W.mroIn K C_BadDeed (.type "object") = some true)
    (sv_BadDeed : PySem.W.subIn K (.ref C_BadDeed) (.type "ValueError") = some true)
    (nf_BadDeed_place : PySem.W.findIn K (.ref C_BadDeed) "place" = some none)
    (rb_TooMany : HandSPX.refsVE (.ref C_CalendarError :: bm_CalendarError) = true)
    (sa_TooMany : PySem.W.findIn K (.ref C_TooMany) "__setattr__" = some (some (.builtin "object.__setattr__")))
    (kC_TooMany : PySem.W.keepIn K (.ref C_TooMany) = true)
    (ga_TooMany : PySem.W.findIn K (.ref C_TooMany) "__getattribute__" = some (some (.builtin "BaseException.__getattribute__")))
    (gg_TooMany : PySem.W.findIn K (.ref C_TooMany) "__getattr__" = some none)
    (hd_TooMany : PySem.W.hasDictIn K C_TooMany = true)
    (ha_TooMany : PySem.W.findIn K (.ref C_TooMany) "__class__" = some (some (.builtin "object.__class__")))
    (hm_TooMany : PySem.W.mroIn K C_TooMany (.type "object") = some true)
    (sv_TooMany : PySem.W.subIn K (.ref C_TooMany) (.type "ValueError") = some true)
    (nf_TooMany_limit : PySem.W.findIn K (.ref C_TooMany) "limit" = some none)
    (xi_NotKept : PySem.W.excIn K C_NotKept [.type "ValueError", .type "Exception", .type "BaseException", .type "object"] "ValueError.__new__" = true)
    (kC_NotKept : PySem.W.keepIn K (.ref C_NotKept) = true)
    (ga_NotKept : PySem.W.findIn K (.ref C_NotKept) "__getattribute__" = some (some (.builtin "BaseException.__getattribute__")))
    (gg_NotKept : PySem.W.findIn K (.ref C_NotKept) "__getattr__" = some none)
    (hd_NotKept : PySem.W.hasDictIn K C_NotKept = true)
    (ha_NotKept : PySem.W.findIn K (.ref C_NotKept) "__class__" = some (some (.builtin "object.__class__")))
    (hm_NotKept : PySem.W.mroIn K C_NotKept (.type "object") = some true)
    (sv_NotKept : PySem.W.subIn K (.ref C_NotKept) (.type "ValueError") = some true)
    (xi_NothingToUndo : PySem.W.excIn K C_NothingToUndo [.type "ValueError", .type "Exception", .type "BaseException", .type "object"] "ValueError.__new__" = true)
    (kC_NothingToUndo : PySem.W.keepIn K (.ref C_NothingToUndo) = true)
    (ga_NothingToUndo : PySem.W.findIn K (.ref C_NothingToUndo) "__getattribute__" = some (some (.builtin "BaseException.__getattribute__")))
    (gg_NothingToUndo : PySem.W.findIn K (.ref C_NothingToUndo) "__getattr__" = some none)
    (hd_NothingToUndo : PySem.W.hasDictIn K C_NothingToUndo = true)
    (ha_NothingToUndo : PySem.W.findIn K (.ref C_NothingToUndo) "__class__" = some (some (.builtin "object.__class__")))
    (hm_NothingToUndo : PySem.W.mroIn K C_NothingToUndo (.type "object") = some true)
    (sv_NothingToUndo : PySem.W.subIn K (.ref C_NothingToUndo) (.type "ValueError") = some true)
    (iC_BadName : PySem.W.findIn K (.ref C_BadName) "__init__" = some (some (.ref fI_BadName)))
    (tI_BadName : PySem.W.typeIn K (.ref fI_BadName) = some (.type "function"))
    (lI_BadName : K.lookup fI_BadName = some ⟨oc_BadName, od_BadName, .func (PySem.W.ksFn "__init__" "BadName.__init__" (defArgs i_BadName) (defBody i_BadName) (defScope i_BadName) .none kV_BadName dc_BadName pm_BadName an_BadName (.ref cda_BadName) ct_BadName cc_BadName), sl_BadName⟩)
    (lC_BadName : K.lookup cda_BadName = some ⟨ccl_BadName, cdd_BadName, .fields vs_BadName, ccs_BadName⟩)
    (vC_BadName : vs_BadName[2]? = some (.str "/claim/cut.py" tf_BadName))
    (cQ_BadName : PySem.W.codeIn K (.ref cda_BadName) "BadName.__init__" = true)
    (ce_BadName : K.lookup cc_BadName = some ⟨cl2_BadName, cld_BadName, .cell (some (.ref C_BadName)), csl_BadName⟩)
    (iC_BadNumber : PySem.W.findIn K (.ref C_BadNumber) "__init__" = some (some (.ref fI_BadNumber)))
    (tI_BadNumber : PySem.W.typeIn K (.ref fI_BadNumber) = some (.type "function"))
    (lI_BadNumber : K.lookup fI_BadNumber = some ⟨oc_BadNumber, od_BadNumber, .func (PySem.W.ksFn "__init__" "BadNumber.__init__" (defArgs i_BadNumber) (defBody i_BadNumber) (defScope i_BadNumber) .none kV_BadNumber dc_BadNumber pm_BadNumber an_BadNumber (.ref cda_BadNumber) ct_BadNumber cc_BadNumber), sl_BadNumber⟩)
    (lC_BadNumber : K.lookup cda_BadNumber = some ⟨ccl_BadNumber, cdd_BadNumber, .fields vs_BadNumber, ccs_BadNumber⟩)
    (vC_BadNumber : vs_BadNumber[2]? = some (.str "/claim/cut.py" tf_BadNumber))
    (cQ_BadNumber : PySem.W.codeIn K (.ref cda_BadNumber) "BadNumber.__init__" = true)
    (ce_BadNumber : K.lookup cc_BadNumber = some ⟨cl2_BadNumber, cld_BadNumber, .cell (some (.ref C_BadNumber)), csl_BadNumber⟩)
    (iC_BadRows : PySem.W.findIn K (.ref C_BadRows) "__init__" = some (some (.ref fI_BadRows)))
    (tI_BadRows : PySem.W.typeIn K (.ref fI_BadRows) = some (.type "function"))
    (lI_BadRows : K.lookup fI_BadRows = some ⟨oc_BadRows, od_BadRows, .func (PySem.W.ksFn "__init__" "BadRows.__init__" (defArgs i_BadRows) (defBody i_BadRows) (defScope i_BadRows) .none kV_BadRows dc_BadRows pm_BadRows an_BadRows (.ref cda_BadRows) ct_BadRows cc_BadRows), sl_BadRows⟩)
    (lC_BadRows : K.lookup cda_BadRows = some ⟨ccl_BadRows, cdd_BadRows, .fields vs_BadRows, ccs_BadRows⟩)
    (vC_BadRows : vs_BadRows[2]? = some (.str "/claim/cut.py" tf_BadRows))
    (cQ_BadRows : PySem.W.codeIn K (.ref cda_BadRows) "BadRows.__init__" = true)
    (ce_BadRows : K.lookup cc_BadRows = some ⟨cl2_BadRows, cld_BadRows, .cell (some (.ref C_BadRows)), csl_BadRows⟩)
    (iC_BadWay : PySem.W.findIn K (.ref C_BadWay) "__init__" = some (some (.ref fI_BadWay)))
    (tI_BadWay : PySem.W.typeIn K (.ref fI_BadWay) = some (.type "function"))
    (lI_BadWay : K.lookup fI_BadWay = some ⟨oc_BadWay, od_BadWay, .func (PySem.W.ksFn "__init__" "BadWay.__init__" (defArgs i_BadWay) (defBody i_BadWay) (defScope i_BadWay) .none kV_BadWay dc_BadWay pm_BadWay an_BadWay (.ref cda_BadWay) ct_BadWay cc_BadWay), sl_BadWay⟩)
    (lC_BadWay : K.lookup cda_BadWay = some ⟨ccl_BadWay, cdd_BadWay, .fields vs_BadWay, ccs_BadWay⟩)
    (vC_BadWay : vs_BadWay[2]? = some (.str "/claim/cut.py" tf_BadWay))
    (cQ_BadWay : PySem.W.codeIn K (.ref cda_BadWay) "BadWay.__init__" = true)
    (ce_BadWay : K.lookup cc_BadWay = some ⟨cl2_BadWay, cld_BadWay, .cell (some (.ref C_BadWay)), csl_BadWay⟩)
    (iC_BadRing : PySem.W.findIn K (.ref C_BadRing) "__init__" = some (some (.ref fI_BadRing)))
    (tI_BadRing : PySem.W.typeIn K (.ref fI_BadRing) = some (.type "function"))
    (lI_BadRing : K.lookup fI_BadRing = some ⟨oc_BadRing, od_BadRing, .func (PySem.W.ksFn "__init__" "BadRing.__init__" (defArgs i_BadRing) (defBody i_BadRing) (defScope i_BadRing) .none kV_BadRing dc_BadRing pm_BadRing an_BadRing (.ref cda_BadRing) ct_BadRing cc_BadRing), sl_BadRing⟩)
    (lC_BadRing : K.lookup cda_BadRing = some ⟨ccl_BadRing, cdd_BadRing, .fields vs_BadRing, ccs_BadRing⟩)
    (vC_BadRing : vs_BadRing[2]? = some (.str "/claim/cut.py" tf_BadRing))
    (cQ_BadRing : PySem.W.codeIn K (.ref cda_BadRing) "BadRing.__init__" = true)
    (ce_BadRing : K.lookup cc_BadRing = some ⟨cl2_BadRing, cld_BadRing, .cell (some (.ref C_BadRing)), csl_BadRing⟩)
    (iC_BadPaper : PySem.W.findIn K (.ref C_BadPaper) "__init__" = some (some (.ref fI_BadPaper)))
    (tI_BadPaper : PySem.W.typeIn K (.ref fI_BadPaper) = some (.type "function"))
    (lI_BadPaper : K.lookup fI_BadPaper = some ⟨oc_BadPaper, od_BadPaper, .func (PySem.W.ksFn "__init__" "BadPaper.__init__" (defArgs i_BadPaper) (defBody i_BadPaper) (defScope i_BadPaper) .none kV_BadPaper dc_BadPaper pm_BadPaper an_BadPaper (.ref cda_BadPaper) ct_BadPaper cc_BadPaper), sl_BadPaper⟩)
    (lC_BadPaper : K.lookup cda_BadPaper = some ⟨ccl_BadPaper, cdd_BadPaper, .fields vs_BadPaper, ccs_BadPaper⟩)
    (vC_BadPaper : vs_BadPaper[2]? = some (.str "/claim/cut.py" tf_BadPaper))
    (cQ_BadPaper : PySem.W.codeIn K (.ref cda_BadPaper) "BadPaper.__init__" = true)
    (ce_BadPaper : K.lookup cc_BadPaper = some ⟨cl2_BadPaper, cld_BadPaper, .cell (some (.ref C_BadPaper)), csl_BadPaper⟩)
    (iC_BadRides : PySem.W.findIn K (.ref C_BadRides) "__init__" = some (some (.ref fI_BadRides)))
    (tI_BadRides : PySem.W.typeIn K (.ref fI_BadRides) = some (.type "function"))
    (lI_BadRides : K.lookup fI_BadRides = some ⟨oc_BadRides, od_BadRides, .func (PySem.W.ksFn "__init__" "BadRides.__init__" (defArgs i_BadRides) (defBody i_BadRides) (defScope i_BadRides) .none kV_BadRides dc_BadRides pm_BadRides an_BadRides (.ref cda_BadRides) ct_BadRides cc_BadRides), sl_BadRides⟩)
    (lC_BadRides : K.lookup cda_BadRides = some ⟨ccl_BadRides, cdd_BadRides, .fields vs_BadRides, ccs_BadRides⟩)
    (vC_BadRides : vs_BadRides[2]? = some (.str "/claim/cut.py" tf_BadRides))
    (cQ_BadRides : PySem.W.codeIn K (.ref cda_BadRides) "BadRides.__init__" = true)
    (ce_BadRides : K.lookup cc_BadRides = some ⟨cl2_BadRides, cld_BadRides, .cell (some (.ref C_BadRides)), csl_BadRides⟩)
    (iC_BadText : PySem.W.findIn K (.ref C_BadText) "__init__" = some (some (.ref fI_BadText)))
    (tI_BadText : PySem.W.typeIn K (.ref fI_BadText) = some (.type "function"))
    (lI_BadText : K.lookup fI_BadText = some ⟨oc_BadText, od_BadText, .func (PySem.W.ksFn "__init__" "BadText.__init__" (defArgs i_BadText) (defBody i_BadText) (defScope i_BadText) .none kV_BadText dc_BadText pm_BadText an_BadText (.ref cda_BadText) ct_BadText cc_BadText), sl_BadText⟩)
    (lC_BadText : K.lookup cda_BadText = some ⟨ccl_BadText, cdd_BadText, .fields vs_BadText, ccs_BadText⟩)
    (vC_BadText : vs_BadText[2]? = some (.str "/claim/cut.py" tf_BadText))
    (cQ_BadText : PySem.W.codeIn K (.ref cda_BadText) "BadText.__init__" = true)
    (ce_BadText : K.lookup cc_BadText = some ⟨cl2_BadText, cld_BadText, .cell (some (.ref C_BadText)), csl_BadText⟩)
    (iC_BadDeed : PySem.W.findIn K (.ref C_BadDeed) "__init__" = some (some (.ref fI_BadDeed)))
    (tI_BadDeed : PySem.W.typeIn K (.ref fI_BadDeed) = some (.type "function"))
    (lI_BadDeed : K.lookup fI_BadDeed = some ⟨oc_BadDeed, od_BadDeed, .func (PySem.W.ksFn "__init__" "BadDeed.__init__" (defArgs i_BadDeed) (defBody i_BadDeed) (defScope i_BadDeed) .none kV_BadDeed dc_BadDeed pm_BadDeed an_BadDeed (.ref cda_BadDeed) ct_BadDeed cc_BadDeed), sl_BadDeed⟩)
    (lC_BadDeed : K.lookup cda_BadDeed = some ⟨ccl_BadDeed, cdd_BadDeed, .fields vs_BadDeed, ccs_BadDeed⟩)
    (vC_BadDeed : vs_BadDeed[2]? = some (.str "/claim/cut.py" tf_BadDeed))
    (cQ_BadDeed : PySem.W.codeIn K (.ref cda_BadDeed) "BadDeed.__init__" = true)
    (ce_BadDeed : K.lookup cc_BadDeed = some ⟨cl2_BadDeed, cld_BadDeed, .cell (some (.ref C_BadDeed)), csl_BadDeed⟩)
    (iC_TooMany : PySem.W.findIn K (.ref C_TooMany) "__init__" = some (some (.ref fI_TooMany)))
    (tI_TooMany : PySem.W.typeIn K (.ref fI_TooMany) = some (.type "function"))
    (lI_TooMany : K.lookup fI_TooMany = some ⟨oc_TooMany, od_TooMany, .func (PySem.W.ksFn "__init__" "TooMany.__init__" (defArgs i_TooMany) (defBody i_TooMany) (defScope i_TooMany) .none kV_TooMany dc_TooMany pm_TooMany an_TooMany (.ref cda_TooMany) ct_TooMany cc_TooMany), sl_TooMany⟩)
    (lC_TooMany : K.lookup cda_TooMany = some ⟨ccl_TooMany, cdd_TooMany, .fields vs_TooMany, ccs_TooMany⟩)
    (vC_TooMany : vs_TooMany[2]? = some (.str "/claim/cut.py" tf_TooMany))
    (cQ_TooMany : PySem.W.codeIn K (.ref cda_TooMany) "TooMany.__init__" = true)
    (ce_TooMany : K.lookup cc_TooMany = some ⟨cl2_TooMany, cld_TooMany, .cell (some (.ref C_TooMany)), csl_TooMany⟩)
    (a__law_start : PySem.W.nsIn K mainGlobals "_law_start" = some (some (.ref f__law_start)))
    (l__law_start : K.lookup f__law_start = some ⟨oc__law_start, od__law_start, .func (PySem.W.fnOf "_law_start" "_law_start" (defArgs t__law_start) (defBody t__law_start) (defScope t__law_start) .none kV__law_start dc__law_start pm__law_start an__law_start cd__law_start ct__law_start), sl__law_start⟩)
    (c__law_start : PySem.W.codeIn K cd__law_start "_law_start" = true)
    (k__law_start : PySem.W.keepIn K (.ref f__law_start) = true)
    (a__law_draw : PySem.W.nsIn K mainGlobals "_law_draw" = some (some (.ref f__law_draw)))
    (l__law_draw : K.lookup f__law_draw = some ⟨oc__law_draw, od__law_draw, .func (PySem.W.fnOf "_law_draw" "_law_draw" (defArgs t__law_draw) (defBody t__law_draw) (defScope t__law_draw) .none kV__law_draw dc__law_draw pm__law_draw an__law_draw cd__law_draw ct__law_draw), sl__law_draw⟩)
    (c__law_draw : PySem.W.codeIn K cd__law_draw "_law_draw" = true)
    (k__law_draw : PySem.W.keepIn K (.ref f__law_draw) = true)
    (a__law_kinds : PySem.W.nsIn K mainGlobals "_law_kinds" = some (some (.ref f__law_kinds)))
    (l__law_kinds : K.lookup f__law_kinds = some ⟨oc__law_kinds, od__law_kinds, .func (PySem.W.fnOf "_law_kinds" "_law_kinds" (defArgs t__law_kinds) (defBody t__law_kinds) (defScope t__law_kinds) .none kV__law_kinds dc__law_kinds pm__law_kinds an__law_kinds cd__law_kinds ct__law_kinds), sl__law_kinds⟩)
    (c__law_kinds : PySem.W.codeIn K cd__law_kinds "_law_kinds" = true)
    (k__law_kinds : PySem.W.keepIn K (.ref f__law_kinds) = true)
    (a__law_throw : PySem.W.nsIn K mainGlobals "_law_throw" = some (some (.ref f__law_throw)))
    (l__law_throw : K.lookup f__law_throw = some ⟨oc__law_throw, od__law_throw, .func (PySem.W.fnOf "_law_throw" "_law_throw" (defArgs t__law_throw) (defBody t__law_throw) (defScope t__law_throw) .none kV__law_throw dc__law_throw pm__law_throw an__law_throw cd__law_throw ct__law_throw), sl__law_throw⟩)
    (c__law_throw : PySem.W.codeIn K cd__law_throw "_law_throw" = true)
    (k__law_throw : PySem.W.keepIn K (.ref f__law_throw) = true)
    (a__law_caught : PySem.W.nsIn K mainGlobals "_law_caught" = some (some (.ref f__law_caught)))
    (l__law_caught : K.lookup f__law_caught = some ⟨oc__law_caught, od__law_caught, .func (PySem.W.fnOf "_law_caught" "_law_caught" (defArgs t__law_caught) (defBody t__law_caught) (defScope t__law_caught) .none kV__law_caught dc__law_caught pm__law_caught an__law_caught cd__law_caught ct__law_caught), sl__law_caught⟩)
    (c__law_caught : PySem.W.codeIn K cd__law_caught "_law_caught" = true)
    (k__law_caught : PySem.W.keepIn K (.ref f__law_caught) = true)
    (a__law_holds : PySem.W.nsIn K mainGlobals "_law_holds" = some (some (.ref f__law_holds)))
    (l__law_holds : K.lookup f__law_holds = some ⟨oc__law_holds, od__law_holds, .func (PySem.W.fnOf "_law_holds" "_law_holds" (defArgs t__law_holds) (defBody t__law_holds) (defScope t__law_holds) .none kV__law_holds dc__law_holds pm__law_holds an__law_holds cd__law_holds ct__law_holds), sl__law_holds⟩)
    (c__law_holds : PySem.W.codeIn K cd__law_holds "_law_holds" = true)
    (k__law_holds : PySem.W.keepIn K (.ref f__law_holds) = true)
    (a__law_values : PySem.W.nsIn K mainGlobals "_law_values" = some (some (.ref f__law_values)))
    (l__law_values : K.lookup f__law_values = some ⟨oc__law_values, od__law_values, .func (PySem.W.fnOf "_law_values" "_law_values" (defArgs t__law_values) (defBody t__law_values) (defScope t__law_values) .none kV__law_values dc__law_values pm__law_values an__law_values cd__law_values ct__law_values), sl__law_values⟩)
    (c__law_values : PySem.W.codeIn K cd__law_values "_law_values" = true)
    (k__law_values : PySem.W.keepIn K (.ref f__law_values) = true)
    (a_law : PySem.W.nsIn K mainGlobals "law" = some (some (.ref f_law)))
    (l_law : K.lookup f_law = some ⟨oc_law, od_law, .func (PySem.W.fnOf "law" "law" (defArgs t_law) (defBody t_law) (defScope t_law) .none kV_law dc_law pm_law an_law cd_law ct_law), sl_law⟩)
    (c_law : PySem.W.codeIn K cd_law "law" = true)
    (k_law : PySem.W.keepIn K (.ref f_law) = true) :
    ∃ fd : FuncData, (∀ (s : Shared) (v : Value), BindsTo s fd ⟨[v], []⟩ [("_law_script", v)]) ∧ ∀ base : Heap, K.In base → base.Ns mainGlobals mg → FnOk P w K mg base (L2.CX P w) 5 fa fd ["_law_script"] (spLaw K) := by
  have e0 := hfa.symm.trans (PySem.W.mg_of X Gn a_law)
  cases e0
  have ox_BadName : OexC K C_BadName := ⟨⟨_, _, _, _, _, _, _, _, _, _, _, _, _, _, _, xL_BadName, rb_BadName⟩, sa_BadName, eC_BadName, tC_BadName, kC_BadName⟩
  have st_BadName : SupTxt K mg C_BadName fI_BadName cc_BadName cda_BadName "BadName.__init__" := ⟨ox_BadName, iC_BadName, tI_BadName, ⟨_, _, _, _, _, lC_BadName, vC_BadName⟩, cQ_BadName, ⟨_, _, _, ce_BadName⟩, sup_of xL_BadName xL_CalendarError fi_CalendarError, sv_BadName, mr_BadName, z_tp, PySem.W.mg_none_of X Gn z_super⟩
  have ox_BadNumber : OexC K C_BadNumber := ⟨⟨_, _, _, _, _, _, _, _, _, _, _, _, _, _, _, xL_BadNumber, rb_BadNumber⟩, sa_BadNumber, eC_BadNumber, tC_BadNumber, kC_BadNumber⟩
  have st_BadNumber : SupTxt K mg C_BadNumber fI_BadNumber cc_BadNumber cda_BadNumber "BadNumber.__init__" := ⟨ox_BadNumber, iC_BadNumber, tI_BadNumber, ⟨_, _, _, _, _, lC_BadNumber, vC_BadNumber⟩, cQ_BadNumber, ⟨_, _, _, ce_BadNumber⟩, sup_of xL_BadNumber xL_CalendarError fi_CalendarError, sv_BadNumber, mr_BadNumber, z_tp, PySem.W.mg_none_of X Gn z_super⟩
  have ox_BadRows : OexC K C_BadRows := ⟨⟨_, _, _, _, _, _, _, _, _, _, _, _, _, _, _, xL_BadRows, rb_BadRows⟩, sa_BadRows, eC_BadRows, tC_BadRows, kC_BadRows⟩
  have st_BadRows : SupTxt K mg C_BadRows fI_BadRows cc_BadRows cda_BadRows "BadRows.__init__" := ⟨ox_BadRows, iC_BadRows, tI_BadRows, ⟨_, _, _, _, _, lC_BadRows, vC_BadRows⟩, cQ_BadRows, ⟨_, _, _, ce_BadRows⟩, sup_of xL_BadRows xL_CalendarError fi_CalendarError, sv_BadRows, mr_BadRows, z_tp, PySem.W.mg_none_of X Gn z_super⟩
  have ox_BadWay : OexC K C_BadWay := ⟨⟨_, _, _, _, _, _, _, _, _, _, _, _, _, _, _, xL_BadWay, rb_BadWay⟩, sa_BadWay, eC_BadWay, tC_BadWay, kC_BadWay⟩
  have st_BadWay : SupTxt K mg C_BadWay fI_BadWay cc_BadWay cda_BadWay "BadWay.__init__" := ⟨ox_BadWay, iC_BadWay, tI_BadWay, ⟨_, _, _, _, _, lC_BadWay, vC_BadWay⟩, cQ_BadWay, ⟨_, _, _, ce_BadWay⟩, sup_of xL_BadWay xL_CalendarError fi_CalendarError, sv_BadWay, mr_BadWay, z_tp, PySem.W.mg_none_of X Gn z_super⟩
  have ox_BadRing : OexC K C_BadRing := ⟨⟨_, _, _, _, _, _, _, _, _, _, _, _, _, _, _, xL_BadRing, rb_BadRing⟩, sa_BadRing, eC_BadRing, tC_BadRing, kC_BadRing⟩
  have st_BadRing : SupTxt K mg C_BadRing fI_BadRing cc_BadRing cda_BadRing "BadRing.__init__" := ⟨ox_BadRing, iC_BadRing, tI_BadRing, ⟨_, _, _, _, _, lC_BadRing, vC_BadRing⟩, cQ_BadRing, ⟨_, _, _, ce_BadRing⟩, sup_of xL_BadRing xL_CalendarError fi_CalendarError, sv_BadRing, mr_BadRing, z_tp, PySem.W.mg_none_of X Gn z_super⟩
  have ox_BadPaper : OexC K C_BadPaper := ⟨⟨_, _, _, _, _, _, _, _, _, _, _, _, _, _, _, xL_BadPaper, rb_BadPaper⟩, sa_BadPaper, eC_BadPaper, tC_BadPaper, kC_BadPaper⟩
  have st_BadPaper : SupTxt K mg C_BadPaper fI_BadPaper cc_BadPaper cda_BadPaper "BadPaper.__init__" := ⟨ox_BadPaper, iC_BadPaper, tI_BadPaper, ⟨_, _, _, _, _, lC_BadPaper, vC_BadPaper⟩, cQ_BadPaper, ⟨_, _, _, ce_BadPaper⟩, sup_of xL_BadPaper xL_CalendarError fi_CalendarError, sv_BadPaper, mr_BadPaper, z_tp, PySem.W.mg_none_of X Gn z_super⟩
  have ox_BadRides : OexC K C_BadRides := ⟨⟨_, _, _, _, _, _, _, _, _, _, _, _, _, _, _, xL_BadRides, rb_BadRides⟩, sa_BadRides, eC_BadRides, tC_BadRides, kC_BadRides⟩
  have st_BadRides : SupTxt K mg C_BadRides fI_BadRides cc_BadRides cda_BadRides "BadRides.__init__" := ⟨ox_BadRides, iC_BadRides, tI_BadRides, ⟨_, _, _, _, _, lC_BadRides, vC_BadRides⟩, cQ_BadRides, ⟨_, _, _, ce_BadRides⟩, sup_of xL_BadRides xL_CalendarError fi_CalendarError, sv_BadRides, mr_BadRides, z_tp, PySem.W.mg_none_of X Gn z_super⟩
  have ox_BadText : OexC K C_BadText := ⟨⟨_, _, _, _, _, _, _, _, _, _, _, _, _, _, _, xL_BadText, rb_BadText⟩, sa_BadText, eC_BadText, tC_BadText, kC_BadText⟩
  have st_BadText : SupTxt K mg C_BadText fI_BadText cc_BadText cda_BadText "BadText.__init__" := ⟨ox_BadText, iC_BadText, tI_BadText, ⟨_, _, _, _, _, lC_BadText, vC_BadText⟩, cQ_BadText, ⟨_, _, _, ce_BadText⟩, sup_of xL_BadText xL_CalendarError fi_CalendarError, sv_BadText, mr_BadText, z_tp, PySem.W.mg_none_of X Gn z_super⟩
  have ox_BadDeed : OexC K C_BadDeed := ⟨⟨_, _, _, _, _, _, _, _, _, _, _, _, _, _, _, xL_BadDeed, rb_BadDeed⟩, sa_BadDeed, eC_BadDeed, tC_BadDeed, kC_BadDeed⟩
  have st_BadDeed : SupTxt K mg C_BadDeed fI_BadDeed cc_BadDeed cda_BadDeed "BadDeed.__init__" := ⟨ox_BadDeed, iC_BadDeed, tI_BadDeed, ⟨_, _, _, _, _, lC_BadDeed, vC_BadDeed⟩, cQ_BadDeed, ⟨_, _, _, ce_BadDeed⟩, sup_of xL_BadDeed xL_CalendarError fi_CalendarError, sv_BadDeed, mr_BadDeed, z_tp, PySem.W.mg_none_of X Gn z_super⟩
  have ox_TooMany : OexC K C_TooMany := ⟨⟨_, _, _, _, _, _, _, _, _, _, _, _, _, _, _, xL_TooMany, rb_TooMany⟩, sa_TooMany, eC_TooMany, tC_TooMany, kC_TooMany⟩
  have st_TooMany : SupTxt K mg C_TooMany fI_TooMany cc_TooMany cda_TooMany "TooMany.__init__" := ⟨ox_TooMany, iC_TooMany, tI_TooMany, ⟨_, _, _, _, _, lC_TooMany, vC_TooMany⟩, cQ_TooMany, ⟨_, _, _, ce_TooMany⟩, sup_of xL_TooMany xL_CalendarError fi_CalendarError, sv_TooMany, mr_TooMany, z_tp, PySem.W.mg_none_of X Gn z_super⟩
  have ek_BadName : ExcK K C_BadName := ⟨cls_of cl_BadName, ga_BadName, gg_BadName, eC_BadName, hd_BadName, ha_BadName, x_hn, x_ht, hm_BadName⟩
  have ek_BadNumber : ExcK K C_BadNumber := ⟨cls_of cl_BadNumber, ga_BadNumber, gg_BadNumber, eC_BadNumber, hd_BadNumber, ha_BadNumber, x_hn, x_ht, hm_BadNumber⟩
  have ek_BadRows : ExcK K C_BadRows := ⟨cls_of cl_BadRows, ga_BadRows, gg_BadRows, eC_BadRows, hd_BadRows, ha_BadRows, x_hn, x_ht, hm_BadRows⟩
  have ek_BadWay : ExcK K C_BadWay := ⟨cls_of cl_BadWay, ga_BadWay, gg_BadWay, eC_BadWay, hd_BadWay, ha_BadWay, x_hn, x_ht, hm_BadWay⟩
  have ek_BadRing : ExcK K C_BadRing := ⟨cls_of cl_BadRing, ga_BadRing, gg_BadRing, eC_BadRing, hd_BadRing, ha_BadRing, x_hn, x_ht, hm_BadRing⟩
  have ek_BadPaper : ExcK K C_BadPaper := ⟨cls_of cl_BadPaper, ga_BadPaper, gg_BadPaper, eC_BadPaper, hd_BadPaper, ha_BadPaper, x_hn, x_ht, hm_BadPaper⟩
  have ek_BadRides : ExcK K C_BadRides := ⟨cls_of cl_BadRides, ga_BadRides, gg_BadRides, eC_BadRides, hd_BadRides, ha_BadRides, x_hn, x_ht, hm_BadRides⟩
  have ek_BadText : ExcK K C_BadText := ⟨cls_of cl_BadText, ga_BadText, gg_BadText, eC_BadText, hd_BadText, ha_BadText, x_hn, x_ht, hm_BadText⟩
  have ek_BadDeed : ExcK K C_BadDeed := ⟨cls_of cl_BadDeed, ga_BadDeed, gg_BadDeed, eC_BadDeed, hd_BadDeed, ha_BadDeed, x_hn, x_ht, hm_BadDeed⟩
  have ek_TooMany : ExcK K C_TooMany := ⟨cls_of cl_TooMany, ga_TooMany, gg_TooMany, eC_TooMany, hd_TooMany, ha_TooMany, x_hn, x_ht, hm_TooMany⟩
  have ek_NotKept : ExcK K C_NotKept := ⟨cls_of cl_NotKept, ga_NotKept, gg_NotKept, eC_NotKept, hd_NotKept, ha_NotKept, x_hn, x_ht, hm_NotKept⟩
  have ek_NothingToUndo : ExcK K C_NothingToUndo := ⟨cls_of cl_NothingToUndo, ga_NothingToUndo, gg_NothingToUndo, eC_NothingToUndo, hd_NothingToUndo, ha_NothingToUndo, x_hn, x_ht, hm_NothingToUndo⟩
  let G : Gm := ⟨K, fun c => match c with | 0 => C_CalendarError | 1 => C_BadName | 2 => C_BadNumber | 3 => C_BadRows | 4 => C_BadWay | 5 => C_BadRing | 6 => C_BadPaper | 7 => C_BadRides | 8 => C_BadText | 9 => C_BadDeed | 10 => C_TooMany | 11 => C_NotKept | _ => C_NothingToUndo⟩
  have fx_b_ValueError : mg "ValueError" = none := PySem.W.mg_none_of X Gn z_ValueError
  have fx_b_abs : mg "abs" = none := PySem.W.mg_none_of X Gn z_abs
  have fx_b_int : mg "int" = none := PySem.W.mg_none_of X Gn z_int
  have fx_b_isinstance : mg "isinstance" = none := PySem.W.mg_none_of X Gn z_isinstance
  have fx_b_len : mg "len" = none := PySem.W.mg_none_of X Gn z_len
  have fx_b_list : mg "list" = none := PySem.W.mg_none_of X Gn z_list
  have fx_b_range : mg "range" = none := PySem.W.mg_none_of X Gn z_range
  have fx_a_end : AtX G "end" at_end_i at_end_e := (atx1 (a := 4) ⟨ek_BadWay, nf_BadWay_end⟩)
  have fx_a_limit : AtX G "limit" at_limit_i at_limit_e := (atx1 (a := 10) ⟨ek_TooMany, nf_TooMany_limit⟩)
  have fx_a_line : AtX G "line" at_line_i at_line_e := (atx1 (a := 8) ⟨ek_BadText, nf_BadText_line⟩)
  have fx_a_name : AtX G "name" at_name_i at_name_e := (atx1 (a := 1) ⟨ek_BadName, nf_BadName_name⟩)
  have fx_a_names : AtX G "names" at_names_i at_names_e := (atx1 (a := 5) ⟨ek_BadRing, nf_BadRing_names⟩)
  have fx_a_place : AtX G "place" at_place_i at_place_e := (atxN (a := 9) (atxN (a := 7) (atx1 (a := 3) ⟨ek_BadRows, nf_BadRows_place⟩) ⟨ek_BadRides, nf_BadRides_place⟩) ⟨ek_BadDeed, nf_BadDeed_place⟩)
  have fx_a_reason : AtX G "reason" at_reason_i at_reason_e := (atx1 (a := 6) ⟨ek_BadPaper, nf_BadPaper_reason⟩)
  have fx_a_row : AtX G "row" at_row_i at_row_e := (atx1 (a := 6) ⟨ek_BadPaper, nf_BadPaper_row⟩)
  have fx_a_start : AtX G "start" at_start_i at_start_e := (atx1 (a := 4) ⟨ek_BadWay, nf_BadWay_start⟩)
  have fx_a_value : AtX G "value" at_value_i at_value_e := (atx1 (a := 2) ⟨ek_BadNumber, nf_BadNumber_value⟩)
  have fx_a_what : AtX G "what" at_what_i at_what_e := (atx1 (a := 2) ⟨ek_BadNumber, nf_BadNumber_what⟩)
  have fx_o_BadDeed : OwnK G mg "BadDeed" tab_BadDeed := ⟨C_BadDeed, PySem.W.mg_of X Gn aC_BadDeed, isi_tab (ClsV.own _) (kit_cons (a := 1) (kit_of cl_BadDeed tC_BadDeed sb_BadDeed_BadName mr_BadDeed) ek_BadName (kit_cons (a := 2) (kit_of cl_BadDeed tC_BadDeed sb_BadDeed_BadNumber mr_BadDeed) ek_BadNumber (kit_cons (a := 3) (kit_of cl_BadDeed tC_BadDeed sb_BadDeed_BadRows mr_BadDeed) ek_BadRows (kit_cons (a := 4) (kit_of cl_BadDeed tC_BadDeed sb_BadDeed_BadWay mr_BadDeed) ek_BadWay (kit_cons (a := 5) (kit_of cl_BadDeed tC_BadDeed sb_BadDeed_BadRing mr_BadDeed) ek_BadRing (kit_cons (a := 6) (kit_of cl_BadDeed tC_BadDeed sb_BadDeed_BadPaper mr_BadDeed) ek_BadPaper (kit_cons (a := 7) (kit_of cl_BadDeed tC_BadDeed sb_BadDeed_BadRides mr_BadDeed) ek_BadRides (kit_cons (a := 8) (kit_of cl_BadDeed tC_BadDeed sb_BadDeed_BadText mr_BadDeed) ek_BadText (kit_cons (a := 9) (kit_of cl_BadDeed tC_BadDeed sb_BadDeed_BadDeed mr_BadDeed) ek_BadDeed (kit_cons (a := 10) (kit_of cl_BadDeed tC_BadDeed sb_BadDeed_TooMany mr_BadDeed) ek_TooMany (kit_cons (a := 11) (kit_of cl_BadDeed tC_BadDeed sb_BadDeed_NotKept mr_BadDeed) ek_NotKept (kit_cons (a := 12) (kit_of cl_BadDeed tC_BadDeed sb_BadDeed_NothingToUndo mr_BadDeed) ek_NothingToUndo kit_nil))))))))))))⟩
  have fx_o_BadName : OwnK G mg "BadName" tab_BadName := ⟨C_BadName, PySem.W.mg_of X Gn aC_BadName, isi_tab (ClsV.own _) (kit_cons (a := 1) (kit_of cl_BadName tC_BadName sb_BadName_BadName mr_BadName) ek_BadName (kit_cons (a := 2) (kit_of cl_BadName tC_BadName sb_BadName_BadNumber mr_BadName) ek_BadNumber (kit_cons (a := 3) (kit_of cl_BadName tC_BadName sb_BadName_BadRows mr_BadName) ek_BadRows (kit_cons (a := 4) (kit_of cl_BadName tC_BadName sb_BadName_BadWay mr_BadName) ek_BadWay (kit_cons (a := 5) (kit_of cl_BadName tC_BadName sb_BadName_BadRing mr_BadName) ek_BadRing (kit_cons (a := 6) (kit_of cl_BadName tC_BadName sb_BadName_BadPaper mr_BadName) ek_BadPaper (kit_cons (a := 7) (kit_of cl_BadName tC_BadName sb_BadName_BadRides mr_BadName) ek_BadRides (kit_cons (a := 8) (kit_of cl_BadName tC_BadName sb_BadName_BadText mr_BadName) ek_BadText (kit_cons (a := 9) (kit_of cl_BadName tC_BadName sb_BadName_BadDeed mr_BadName) ek_BadDeed (kit_cons (a := 10) (kit_of cl_BadName tC_BadName sb_BadName_TooMany mr_BadName) ek_TooMany (kit_cons (a := 11) (kit_of cl_BadName tC_BadName sb_BadName_NotKept mr_BadName) ek_NotKept (kit_cons (a := 12) (kit_of cl_BadName tC_BadName sb_BadName_NothingToUndo mr_BadName) ek_NothingToUndo kit_nil))))))))))))⟩
  have fx_o_BadNumber : OwnK G mg "BadNumber" tab_BadNumber := ⟨C_BadNumber, PySem.W.mg_of X Gn aC_BadNumber, isi_tab (ClsV.own _) (kit_cons (a := 1) (kit_of cl_BadNumber tC_BadNumber sb_BadNumber_BadName mr_BadNumber) ek_BadName (kit_cons (a := 2) (kit_of cl_BadNumber tC_BadNumber sb_BadNumber_BadNumber mr_BadNumber) ek_BadNumber (kit_cons (a := 3) (kit_of cl_BadNumber tC_BadNumber sb_BadNumber_BadRows mr_BadNumber) ek_BadRows (kit_cons (a := 4) (kit_of cl_BadNumber tC_BadNumber sb_BadNumber_BadWay mr_BadNumber) ek_BadWay (kit_cons (a := 5) (kit_of cl_BadNumber tC_BadNumber sb_BadNumber_BadRing mr_BadNumber) ek_BadRing (kit_cons (a := 6) (kit_of cl_BadNumber tC_BadNumber sb_BadNumber_BadPaper mr_BadNumber) ek_BadPaper (kit_cons (a := 7) (kit_of cl_BadNumber tC_BadNumber sb_BadNumber_BadRides mr_BadNumber) ek_BadRides (kit_cons (a := 8) (kit_of cl_BadNumber tC_BadNumber sb_BadNumber_BadText mr_BadNumber) ek_BadText (kit_cons (a := 9) (kit_of cl_BadNumber tC_BadNumber sb_BadNumber_BadDeed mr_BadNumber) ek_BadDeed (kit_cons (a := 10) (kit_of cl_BadNumber tC_BadNumber sb_BadNumber_TooMany mr_BadNumber) ek_TooMany (kit_cons (a := 11) (kit_of cl_BadNumber tC_BadNumber sb_BadNumber_NotKept mr_BadNumber) ek_NotKept (kit_cons (a := 12) (kit_of cl_BadNumber tC_BadNumber sb_BadNumber_NothingToUndo mr_BadNumber) ek_NothingToUndo kit_nil))))))))))))⟩
  have fx_o_BadPaper : OwnK G mg "BadPaper" tab_BadPaper := ⟨C_BadPaper, PySem.W.mg_of X Gn aC_BadPaper, isi_tab (ClsV.own _) (kit_cons (a := 1) (kit_of cl_BadPaper tC_BadPaper sb_BadPaper_BadName mr_BadPaper) ek_BadName (kit_cons (a := 2) (kit_of cl_BadPaper tC_BadPaper sb_BadPaper_BadNumber mr_BadPaper) ek_BadNumber (kit_cons (a := 3) (kit_of cl_BadPaper tC_BadPaper sb_BadPaper_BadRows mr_BadPaper) ek_BadRows (kit_cons (a := 4) (kit_of cl_BadPaper tC_BadPaper sb_BadPaper_BadWay mr_BadPaper) ek_BadWay (kit_cons (a := 5) (kit_of cl_BadPaper tC_BadPaper sb_BadPaper_BadRing mr_BadPaper) ek_BadRing (kit_cons (a := 6) (kit_of cl_BadPaper tC_BadPaper sb_BadPaper_BadPaper mr_BadPaper) ek_BadPaper (kit_cons (a := 7) (kit_of cl_BadPaper tC_BadPaper sb_BadPaper_BadRides mr_BadPaper) ek_BadRides (kit_cons (a := 8) (kit_of cl_BadPaper tC_BadPaper sb_BadPaper_BadText mr_BadPaper) ek_BadText (kit_cons (a := 9) (kit_of cl_BadPaper tC_BadPaper sb_BadPaper_BadDeed mr_BadPaper) ek_BadDeed (kit_cons (a := 10) (kit_of cl_BadPaper tC_BadPaper sb_BadPaper_TooMany mr_BadPaper) ek_TooMany (kit_cons (a := 11) (kit_of cl_BadPaper tC_BadPaper sb_BadPaper_NotKept mr_BadPaper) ek_NotKept (kit_cons (a := 12) (kit_of cl_BadPaper tC_BadPaper sb_BadPaper_NothingToUndo mr_BadPaper) ek_NothingToUndo kit_nil))))))))))))⟩
  have fx_o_BadRides : OwnK G mg "BadRides" tab_BadRides := ⟨C_BadRides, PySem.W.mg_of X Gn aC_BadRides, isi_tab (ClsV.own _) (kit_cons (a := 1) (kit_of cl_BadRides tC_BadRides sb_BadRides_BadName mr_BadRides) ek_BadName (kit_cons (a := 2) (kit_of cl_BadRides tC_BadRides sb_BadRides_BadNumber mr_BadRides) ek_BadNumber (kit_cons (a := 3) (kit_of cl_BadRides tC_BadRides sb_BadRides_BadRows mr_BadRides) ek_BadRows (kit_cons (a := 4) (kit_of cl_BadRides tC_BadRides sb_BadRides_BadWay mr_BadRides) ek_BadWay (kit_cons (a := 5) (kit_of cl_BadRides tC_BadRides sb_BadRides_BadRing mr_BadRides) ek_BadRing (kit_cons (a := 6) (kit_of cl_BadRides tC_BadRides sb_BadRides_BadPaper mr_BadRides) ek_BadPaper (kit_cons (a := 7) (kit_of cl_BadRides tC_BadRides sb_BadRides_BadRides mr_BadRides) ek_BadRides (kit_cons (a := 8) (kit_of cl_BadRides tC_BadRides sb_BadRides_BadText mr_BadRides) ek_BadText (kit_cons (a := 9) (kit_of cl_BadRides tC_BadRides sb_BadRides_BadDeed mr_BadRides) ek_BadDeed (kit_cons (a := 10) (kit_of cl_BadRides tC_BadRides sb_BadRides_TooMany mr_BadRides) ek_TooMany (kit_cons (a := 11) (kit_of cl_BadRides tC_BadRides sb_BadRides_NotKept mr_BadRides) ek_NotKept (kit_cons (a := 12) (kit_of cl_BadRides tC_BadRides sb_BadRides_NothingToUndo mr_BadRides) ek_NothingToUndo kit_nil))))))))))))⟩
  have fx_o_BadRing : OwnK G mg "BadRing" tab_BadRing := ⟨C_BadRing, PySem.W.mg_of X Gn aC_BadRing, isi_tab (ClsV.own _) (kit_cons (a := 1) (kit_of cl_BadRing tC_BadRing sb_BadRing_BadName mr_BadRing) ek_BadName (kit_cons (a := 2) (kit_of cl_BadRing tC_BadRing sb_BadRing_BadNumber mr_BadRing) ek_BadNumber (kit_cons (a := 3) (kit_of cl_BadRing tC_BadRing sb_BadRing_BadRows mr_BadRing) ek_BadRows (kit_cons (a := 4) (kit_of cl_BadRing tC_BadRing sb_BadRing_BadWay mr_BadRing) ek_BadWay (kit_cons (a := 5) (kit_of cl_BadRing tC_BadRing sb_BadRing_BadRing mr_BadRing) ek_BadRing (kit_cons (a := 6) (kit_of cl_BadRing tC_BadRing sb_BadRing_BadPaper mr_BadRing) ek_BadPaper (kit_cons (a := 7) (kit_of cl_BadRing tC_BadRing sb_BadRing_BadRides mr_BadRing) ek_BadRides (kit_cons (a := 8) (kit_of cl_BadRing tC_BadRing sb_BadRing_BadText mr_BadRing) ek_BadText (kit_cons (a := 9) (kit_of cl_BadRing tC_BadRing sb_BadRing_BadDeed mr_BadRing) ek_BadDeed (kit_cons (a := 10) (kit_of cl_BadRing tC_BadRing sb_BadRing_TooMany mr_BadRing) ek_TooMany (kit_cons (a := 11) (kit_of cl_BadRing tC_BadRing sb_BadRing_NotKept mr_BadRing) ek_NotKept (kit_cons (a := 12) (kit_of cl_BadRing tC_BadRing sb_BadRing_NothingToUndo mr_BadRing) ek_NothingToUndo kit_nil))))))))))))⟩
  have fx_o_BadRows : OwnK G mg "BadRows" tab_BadRows := ⟨C_BadRows, PySem.W.mg_of X Gn aC_BadRows, isi_tab (ClsV.own _) (kit_cons (a := 1) (kit_of cl_BadRows tC_BadRows sb_BadRows_BadName mr_BadRows) ek_BadName (kit_cons (a := 2) (kit_of cl_BadRows tC_BadRows sb_BadRows_BadNumber mr_BadRows) ek_BadNumber (kit_cons (a := 3) (kit_of cl_BadRows tC_BadRows sb_BadRows_BadRows mr_BadRows) ek_BadRows (kit_cons (a := 4) (kit_of cl_BadRows tC_BadRows sb_BadRows_BadWay mr_BadRows) ek_BadWay (kit_cons (a := 5) (kit_of cl_BadRows tC_BadRows sb_BadRows_BadRing mr_BadRows) ek_BadRing (kit_cons (a := 6) (kit_of cl_BadRows tC_BadRows sb_BadRows_BadPaper mr_BadRows) ek_BadPaper (kit_cons (a := 7) (kit_of cl_BadRows tC_BadRows sb_BadRows_BadRides mr_BadRows) ek_BadRides (kit_cons (a := 8) (kit_of cl_BadRows tC_BadRows sb_BadRows_BadText mr_BadRows) ek_BadText (kit_cons (a := 9) (kit_of cl_BadRows tC_BadRows sb_BadRows_BadDeed mr_BadRows) ek_BadDeed (kit_cons (a := 10) (kit_of cl_BadRows tC_BadRows sb_BadRows_TooMany mr_BadRows) ek_TooMany (kit_cons (a := 11) (kit_of cl_BadRows tC_BadRows sb_BadRows_NotKept mr_BadRows) ek_NotKept (kit_cons (a := 12) (kit_of cl_BadRows tC_BadRows sb_BadRows_NothingToUndo mr_BadRows) ek_NothingToUndo kit_nil))))))))))))⟩
  have fx_o_BadText : OwnK G mg "BadText" tab_BadText := ⟨C_BadText, PySem.W.mg_of X Gn aC_BadText, isi_tab (ClsV.own _) (kit_cons (a := 1) (kit_of cl_BadText tC_BadText sb_BadText_BadName mr_BadText) ek_BadName (kit_cons (a := 2) (kit_of cl_BadText tC_BadText sb_BadText_BadNumber mr_BadText) ek_BadNumber (kit_cons (a := 3) (kit_of cl_BadText tC_BadText sb_BadText_BadRows mr_BadText) ek_BadRows (kit_cons (a := 4) (kit_of cl_BadText tC_BadText sb_BadText_BadWay mr_BadText) ek_BadWay (kit_cons (a := 5) (kit_of cl_BadText tC_BadText sb_BadText_BadRing mr_BadText) ek_BadRing (kit_cons (a := 6) (kit_of cl_BadText tC_BadText sb_BadText_BadPaper mr_BadText) ek_BadPaper (kit_cons (a := 7) (kit_of cl_BadText tC_BadText sb_BadText_BadRides mr_BadText) ek_BadRides (kit_cons (a := 8) (kit_of cl_BadText tC_BadText sb_BadText_BadText mr_BadText) ek_BadText (kit_cons (a := 9) (kit_of cl_BadText tC_BadText sb_BadText_BadDeed mr_BadText) ek_BadDeed (kit_cons (a := 10) (kit_of cl_BadText tC_BadText sb_BadText_TooMany mr_BadText) ek_TooMany (kit_cons (a := 11) (kit_of cl_BadText tC_BadText sb_BadText_NotKept mr_BadText) ek_NotKept (kit_cons (a := 12) (kit_of cl_BadText tC_BadText sb_BadText_NothingToUndo mr_BadText) ek_NothingToUndo kit_nil))))))))))))⟩
  have fx_o_BadWay : OwnK G mg "BadWay" tab_BadWay := ⟨C_BadWay, PySem.W.mg_of X Gn aC_BadWay, isi_tab (ClsV.own _) (kit_cons (a := 1) (kit_of cl_BadWay tC_BadWay sb_BadWay_BadName mr_BadWay) ek_BadName (kit_cons (a := 2) (kit_of cl_BadWay tC_BadWay sb_BadWay_BadNumber mr_BadWay) ek_BadNumber (kit_cons (a := 3) (kit_of cl_BadWay tC_BadWay sb_BadWay_BadRows mr_BadWay) ek_BadRows (kit_cons (a := 4) (kit_of cl_BadWay tC_BadWay sb_BadWay_BadWay mr_BadWay) ek_BadWay (kit_cons (a := 5) (kit_of cl_BadWay tC_BadWay sb_BadWay_BadRing mr_BadWay) ek_BadRing (kit_cons (a := 6) (kit_of cl_BadWay tC_BadWay sb_BadWay_BadPaper mr_BadWay) ek_BadPaper (kit_cons (a := 7) (kit_of cl_BadWay tC_BadWay sb_BadWay_BadRides mr_BadWay) ek_BadRides (kit_cons (a := 8) (kit_of cl_BadWay tC_BadWay sb_BadWay_BadText mr_BadWay) ek_BadText (kit_cons (a := 9) (kit_of cl_BadWay tC_BadWay sb_BadWay_BadDeed mr_BadWay) ek_BadDeed (kit_cons (a := 10) (kit_of cl_BadWay tC_BadWay sb_BadWay_TooMany mr_BadWay) ek_TooMany (kit_cons (a := 11) (kit_of cl_BadWay tC_BadWay sb_BadWay_NotKept mr_BadWay) ek_NotKept (kit_cons (a := 12) (kit_of cl_BadWay tC_BadWay sb_BadWay_NothingToUndo mr_BadWay) ek_NothingToUndo kit_nil))))))))))))⟩
  have fx_o_CalendarError : OwnK G mg "CalendarError" tab_CalendarError := ⟨C_CalendarError, PySem.W.mg_of X Gn aC_CalendarError, isi_tab (ClsV.own _) (kit_cons (a := 1) (kit_of cl_CalendarError tC_CalendarError sb_CalendarError_BadName mr_CalendarError) ek_BadName (kit_cons (a := 2) (kit_of cl_CalendarError tC_CalendarError sb_CalendarError_BadNumber mr_CalendarError) ek_BadNumber (kit_cons (a := 3) (kit_of cl_CalendarError tC_CalendarError sb_CalendarError_BadRows mr_CalendarError) ek_BadRows (kit_cons (a := 4) (kit_of cl_CalendarError tC_CalendarError sb_CalendarError_BadWay mr_CalendarError) ek_BadWay (kit_cons (a := 5) (kit_of cl_CalendarError tC_CalendarError sb_CalendarError_BadRing mr_CalendarError) ek_BadRing (kit_cons (a := 6) (kit_of cl_CalendarError tC_CalendarError sb_CalendarError_BadPaper mr_CalendarError) ek_BadPaper (kit_cons (a := 7) (kit_of cl_CalendarError tC_CalendarError sb_CalendarError_BadRides mr_CalendarError) ek_BadRides (kit_cons (a := 8) (kit_of cl_CalendarError tC_CalendarError sb_CalendarError_BadText mr_CalendarError) ek_BadText (kit_cons (a := 9) (kit_of cl_CalendarError tC_CalendarError sb_CalendarError_BadDeed mr_CalendarError) ek_BadDeed (kit_cons (a := 10) (kit_of cl_CalendarError tC_CalendarError sb_CalendarError_TooMany mr_CalendarError) ek_TooMany (kit_cons (a := 11) (kit_of cl_CalendarError tC_CalendarError sb_CalendarError_NotKept mr_CalendarError) ek_NotKept (kit_cons (a := 12) (kit_of cl_CalendarError tC_CalendarError sb_CalendarError_NothingToUndo mr_CalendarError) ek_NothingToUndo kit_nil))))))))))))⟩
  have fx_o_NotKept : OwnK G mg "NotKept" tab_NotKept := ⟨C_NotKept, PySem.W.mg_of X Gn aC_NotKept, isi_tab (ClsV.own _) (kit_cons (a := 1) (kit_of cl_NotKept tC_NotKept sb_NotKept_BadName mr_NotKept) ek_BadName (kit_cons (a := 2) (kit_of cl_NotKept tC_NotKept sb_NotKept_BadNumber mr_NotKept) ek_BadNumber (kit_cons (a := 3) (kit_of cl_NotKept tC_NotKept sb_NotKept_BadRows mr_NotKept) ek_BadRows (kit_cons (a := 4) (kit_of cl_NotKept tC_NotKept sb_NotKept_BadWay mr_NotKept) ek_BadWay (kit_cons (a := 5) (kit_of cl_NotKept tC_NotKept sb_NotKept_BadRing mr_NotKept) ek_BadRing (kit_cons (a := 6) (kit_of cl_NotKept tC_NotKept sb_NotKept_BadPaper mr_NotKept) ek_BadPaper (kit_cons (a := 7) (kit_of cl_NotKept tC_NotKept sb_NotKept_BadRides mr_NotKept) ek_BadRides (kit_cons (a := 8) (kit_of cl_NotKept tC_NotKept sb_NotKept_BadText mr_NotKept) ek_BadText (kit_cons (a := 9) (kit_of cl_NotKept tC_NotKept sb_NotKept_BadDeed mr_NotKept) ek_BadDeed (kit_cons (a := 10) (kit_of cl_NotKept tC_NotKept sb_NotKept_TooMany mr_NotKept) ek_TooMany (kit_cons (a := 11) (kit_of cl_NotKept tC_NotKept sb_NotKept_NotKept mr_NotKept) ek_NotKept (kit_cons (a := 12) (kit_of cl_NotKept tC_NotKept sb_NotKept_NothingToUndo mr_NotKept) ek_NothingToUndo kit_nil))))))))))))⟩
  have fx_o_NothingToUndo : OwnK G mg "NothingToUndo" tab_NothingToUndo := ⟨C_NothingToUndo, PySem.W.mg_of X Gn aC_NothingToUndo, isi_tab (ClsV.own _) (kit_cons (a := 1) (kit_of cl_NothingToUndo tC_NothingToUndo sb_NothingToUndo_BadName mr_NothingToUndo) ek_BadName (kit_cons (a := 2) (kit_of cl_NothingToUndo tC_NothingToUndo sb_NothingToUndo_BadNumber mr_NothingToUndo) ek_BadNumber (kit_cons (a := 3) (kit_of cl_NothingToUndo tC_NothingToUndo sb_NothingToUndo_BadRows mr_NothingToUndo) ek_BadRows (kit_cons (a := 4) (kit_of cl_NothingToUndo tC_NothingToUndo sb_NothingToUndo_BadWay mr_NothingToUndo) ek_BadWay (kit_cons (a := 5) (kit_of cl_NothingToUndo tC_NothingToUndo sb_NothingToUndo_BadRing mr_NothingToUndo) ek_BadRing (kit_cons (a := 6) (kit_of cl_NothingToUndo tC_NothingToUndo sb_NothingToUndo_BadPaper mr_NothingToUndo) ek_BadPaper (kit_cons (a := 7) (kit_of cl_NothingToUndo tC_NothingToUndo sb_NothingToUndo_BadRides mr_NothingToUndo) ek_BadRides (kit_cons (a := 8) (kit_of cl_NothingToUndo tC_NothingToUndo sb_NothingToUndo_BadText mr_NothingToUndo) ek_BadText (kit_cons (a := 9) (kit_of cl_NothingToUndo tC_NothingToUndo sb_NothingToUndo_BadDeed mr_NothingToUndo) ek_BadDeed (kit_cons (a := 10) (kit_of cl_NothingToUndo tC_NothingToUndo sb_NothingToUndo_TooMany mr_NothingToUndo) ek_TooMany (kit_cons (a := 11) (kit_of cl_NothingToUndo tC_NothingToUndo sb_NothingToUndo_NotKept mr_NothingToUndo) ek_NotKept (kit_cons (a := 12) (kit_of cl_NothingToUndo tC_NothingToUndo sb_NothingToUndo_NothingToUndo mr_NothingToUndo) ek_NothingToUndo kit_nil))))))))))))⟩
  have fx_o_TooMany : OwnK G mg "TooMany" tab_TooMany := ⟨C_TooMany, PySem.W.mg_of X Gn aC_TooMany, isi_tab (ClsV.own _) (kit_cons (a := 1) (kit_of cl_TooMany tC_TooMany sb_TooMany_BadName mr_TooMany) ek_BadName (kit_cons (a := 2) (kit_of cl_TooMany tC_TooMany sb_TooMany_BadNumber mr_TooMany) ek_BadNumber (kit_cons (a := 3) (kit_of cl_TooMany tC_TooMany sb_TooMany_BadRows mr_TooMany) ek_BadRows (kit_cons (a := 4) (kit_of cl_TooMany tC_TooMany sb_TooMany_BadWay mr_TooMany) ek_BadWay (kit_cons (a := 5) (kit_of cl_TooMany tC_TooMany sb_TooMany_BadRing mr_TooMany) ek_BadRing (kit_cons (a := 6) (kit_of cl_TooMany tC_TooMany sb_TooMany_BadPaper mr_TooMany) ek_BadPaper (kit_cons (a := 7) (kit_of cl_TooMany tC_TooMany sb_TooMany_BadRides mr_TooMany) ek_BadRides (kit_cons (a := 8) (kit_of cl_TooMany tC_TooMany sb_TooMany_BadText mr_TooMany) ek_BadText (kit_cons (a := 9) (kit_of cl_TooMany tC_TooMany sb_TooMany_BadDeed mr_TooMany) ek_BadDeed (kit_cons (a := 10) (kit_of cl_TooMany tC_TooMany sb_TooMany_TooMany mr_TooMany) ek_TooMany (kit_cons (a := 11) (kit_of cl_TooMany tC_TooMany sb_TooMany_NotKept mr_TooMany) ek_NotKept (kit_cons (a := 12) (kit_of cl_TooMany tC_TooMany sb_TooMany_NothingToUndo mr_TooMany) ek_NothingToUndo kit_nil))))))))))))⟩
  have fx_v_ValueError : IsiC G tab_ValueError (.ty "ValueError") (.type "ValueError") := isi_tab (ClsV.ty _) (kit_cons (a := 1) (kit_b (by decide +kernel) sv_BadName) ek_BadName (kit_cons (a := 2) (kit_b (by decide +kernel) sv_BadNumber) ek_BadNumber (kit_cons (a := 3) (kit_b (by decide +kernel) sv_BadRows) ek_BadRows (kit_cons (a := 4) (kit_b (by decide +kernel) sv_BadWay) ek_BadWay (kit_cons (a := 5) (kit_b (by decide +kernel) sv_BadRing) ek_BadRing (kit_cons (a := 6) (kit_b (by decide +kernel) sv_BadPaper) ek_BadPaper (kit_cons (a := 7) (kit_b (by decide +kernel) sv_BadRides) ek_BadRides (kit_cons (a := 8) (kit_b (by decide +kernel) sv_BadText) ek_BadText (kit_cons (a := 9) (kit_b (by decide +kernel) sv_BadDeed) ek_BadDeed (kit_cons (a := 10) (kit_b (by decide +kernel) sv_TooMany) ek_TooMany (kit_cons (a := 11) (kit_b (by decide +kernel) sv_NotKept) ek_NotKept (kit_cons (a := 12) (kit_b (by decide +kernel) sv_NothingToUndo) ek_NothingToUndo kit_nil))))))))))))
  have fx_t_CalendarError : TakC G tk_CalendarError (.ref (G.ca 0)) := (tak_cons (a := 1) (exm_of eC_CalendarError cl_CalendarError tC_CalendarError sb_CalendarError_BadName) (tak_cons (a := 2) (exm_of eC_CalendarError cl_CalendarError tC_CalendarError sb_CalendarError_BadNumber) (tak_cons (a := 3) (exm_of eC_CalendarError cl_CalendarError tC_CalendarError sb_CalendarError_BadRows) (tak_cons (a := 4) (exm_of eC_CalendarError cl_CalendarError tC_CalendarError sb_CalendarError_BadWay) (tak_cons (a := 5) (exm_of eC_CalendarError cl_CalendarError tC_CalendarError sb_CalendarError_BadRing) (tak_cons (a := 6) (exm_of eC_CalendarError cl_CalendarError tC_CalendarError sb_CalendarError_BadPaper) (tak_cons (a := 7) (exm_of eC_CalendarError cl_CalendarError tC_CalendarError sb_CalendarError_BadRides) (tak_cons (a := 8) (exm_of eC_CalendarError cl_CalendarError tC_CalendarError sb_CalendarError_BadText) (tak_cons (a := 9) (exm_of eC_CalendarError cl_CalendarError tC_CalendarError sb_CalendarError_BadDeed) (tak_cons (a := 10) (exm_of eC_CalendarError cl_CalendarError tC_CalendarError sb_CalendarError_TooMany) (tak_cons (a := 11) (exm_of eC_CalendarError cl_CalendarError tC_CalendarError sb_CalendarError_NotKept) (tak_cons (a := 12) (exm_of eC_CalendarError cl_CalendarError tC_CalendarError sb_CalendarError_NothingToUndo) tak_nil))))))))))))
  have fx_g_CalendarError : mg "CalendarError" = some (.ref (G.ca 0)) := PySem.W.mg_of X Gn aC_CalendarError
  have fx_t_BadName : TakC G tk_BadName (.ref (G.ca 1)) := (tak_cons (a := 1) (exm_of eC_BadName cl_BadName tC_BadName sb_BadName_BadName) (tak_cons (a := 2) (exm_of eC_BadName cl_BadName tC_BadName sb_BadName_BadNumber) (tak_cons (a := 3) (exm_of eC_BadName cl_BadName tC_BadName sb_BadName_BadRows) (tak_cons (a := 4) (exm_of eC_BadName cl_BadName tC_BadName sb_BadName_BadWay) (tak_cons (a := 5) (exm_of eC_BadName cl_BadName tC_BadName sb_BadName_BadRing) (tak_cons (a := 6) (exm_of eC_BadName cl_BadName tC_BadName sb_BadName_BadPaper) (tak_cons (a := 7) (exm_of eC_BadName cl_BadName tC_BadName sb_BadName_BadRides) (tak_cons (a := 8) (exm_of eC_BadName cl_BadName tC_BadName sb_BadName_BadText) (tak_cons (a := 9) (exm_of eC_BadName cl_BadName tC_BadName sb_BadName_BadDeed) (tak_cons (a := 10) (exm_of eC_BadName cl_BadName tC_BadName sb_BadName_TooMany) (tak_cons (a := 11) (exm_of eC_BadName cl_BadName tC_BadName sb_BadName_NotKept) (tak_cons (a := 12) (exm_of eC_BadName cl_BadName tC_BadName sb_BadName_NothingToUndo) tak_nil))))))))))))
  have fx_g_BadName : mg "BadName" = some (.ref (G.ca 1)) := PySem.W.mg_of X Gn aC_BadName
  have fx_t_BadNumber : TakC G tk_BadNumber (.ref (G.ca 2)) := (tak_cons (a := 1) (exm_of eC_BadNumber cl_BadNumber tC_BadNumber sb_BadNumber_BadName) (tak_cons (a := 2) (exm_of eC_BadNumber cl_BadNumber tC_BadNumber sb_BadNumber_BadNumber) (tak_cons (a := 3) (exm_of eC_BadNumber cl_BadNumber tC_BadNumber sb_BadNumber_BadRows) (tak_cons (a := 4) (exm_of eC_BadNumber cl_BadNumber tC_BadNumber sb_BadNumber_BadWay) (tak_cons (a := 5) (exm_of eC_BadNumber cl_BadNumber tC_BadNumber sb_BadNumber_BadRing) (tak_cons (a := 6) (exm_of eC_BadNumber cl_BadNumber tC_BadNumber sb_BadNumber_BadPaper) (tak_cons (a := 7) (exm_of eC_BadNumber cl_BadNumber tC_BadNumber sb_BadNumber_BadRides) (tak_cons (a := 8) (exm_of eC_BadNumber cl_BadNumber tC_BadNumber sb_BadNumber_BadText) (tak_cons (a := 9) (exm_of eC_BadNumber cl_BadNumber tC_BadNumber sb_BadNumber_BadDeed) (tak_cons (a := 10) (exm_of eC_BadNumber cl_BadNumber tC_BadNumber sb_BadNumber_TooMany) (tak_cons (a := 11) (exm_of eC_BadNumber cl_BadNumber tC_BadNumber sb_BadNumber_NotKept) (tak_cons (a := 12) (exm_of eC_BadNumber cl_BadNumber tC_BadNumber sb_BadNumber_NothingToUndo) tak_nil))))))))))))
  have fx_g_BadNumber : mg "BadNumber" = some (.ref (G.ca 2)) := PySem.W.mg_of X Gn aC_BadNumber
  have fx_t_BadRows : TakC G tk_BadRows (.ref (G.ca 3)) := (tak_cons (a := 1) (exm_of eC_BadRows cl_BadRows tC_BadRows sb_BadRows_BadName) (tak_cons (a := 2) (exm_of eC_BadRows cl_BadRows tC_BadRows sb_BadRows_BadNumber) (tak_cons (a := 3) (exm_of eC_BadRows cl_BadRows tC_BadRows sb_BadRows_BadRows) (tak_cons (a := 4) (exm_of eC_BadRows cl_BadRows tC_BadRows sb_BadRows_BadWay) (tak_cons (a := 5) (exm_of eC_BadRows cl_BadRows tC_BadRows sb_BadRows_BadRing) (tak_cons (a := 6) (exm_of eC_BadRows cl_BadRows tC_BadRows sb_BadRows_BadPaper) (tak_cons (a := 7) (exm_of eC_BadRows cl_BadRows tC_BadRows sb_BadRows_BadRides) (tak_cons (a := 8) (exm_of eC_BadRows cl_BadRows tC_BadRows sb_BadRows_BadText) (tak_cons (a := 9) (exm_of eC_BadRows cl_BadRows tC_BadRows sb_BadRows_BadDeed) (tak_cons (a := 10) (exm_of eC_BadRows cl_BadRows tC_BadRows sb_BadRows_TooMany) (tak_cons (a := 11) (exm_of eC_BadRows cl_BadRows tC_BadRows sb_BadRows_NotKept) (tak_cons (a := 12) (exm_of eC_BadRows cl_BadRows tC_BadRows sb_BadRows_NothingToUndo) tak_nil))))))))))))
  have fx_g_BadRows : mg "BadRows" = some (.ref (G.ca 3)) := PySem.W.mg_of X Gn aC_BadRows
  have fx_t_BadWay : TakC G tk_BadWay (.ref (G.ca 4)) := (tak_cons (a := 1) (exm_of eC_BadWay cl_BadWay tC_BadWay sb_BadWay_BadName) (tak_cons (a := 2) (exm_of eC_BadWay cl_BadWay tC_BadWay sb_BadWay_BadNumber) (tak_cons (a := 3) (exm_of eC_BadWay cl_BadWay tC_BadWay sb_BadWay_BadRows) (tak_cons (a := 4) (exm_of eC_BadWay cl_BadWay tC_BadWay sb_BadWay_BadWay) (tak_cons (a := 5) (exm_of eC_BadWay cl_BadWay tC_BadWay sb_BadWay_BadRing) (tak_cons (a := 6) (exm_of eC_BadWay cl_BadWay tC_BadWay sb_BadWay_BadPaper) (tak_cons (a := 7) (exm_of eC_BadWay cl_BadWay tC_BadWay sb_BadWay_BadRides) (tak_cons (a := 8) (exm_of eC_BadWay cl_BadWay tC_BadWay sb_BadWay_BadText) (tak_cons (a := 9) (exm_of eC_BadWay cl_BadWay tC_BadWay sb_BadWay_BadDeed) (tak_cons (a := 10) (exm_of eC_BadWay cl_BadWay tC_BadWay sb_BadWay_TooMany) (tak_cons (a := 11) (exm_of eC_BadWay cl_BadWay tC_BadWay sb_BadWay_NotKept) (tak_cons (a := 12) (exm_of eC_BadWay cl_BadWay tC_BadWay sb_BadWay_NothingToUndo) tak_nil))))))))))))
  have fx_g_BadWay : mg "BadWay" = some (.ref (G.ca 4)) := PySem.W.mg_of X Gn aC_BadWay
  have fx_t_BadRing : TakC G tk_BadRing (.ref (G.ca 5)) := (tak_cons (a := 1) (exm_of eC_BadRing cl_BadRing tC_BadRing sb_BadRing_BadName) (tak_cons (a := 2) (exm_of eC_BadRing cl_BadRing tC_BadRing sb_BadRing_BadNumber) (tak_cons (a := 3) (exm_of eC_BadRing cl_BadRing tC_BadRing sb_BadRing_BadRows) (tak_cons (a := 4) (exm_of eC_BadRing cl_BadRing tC_BadRing sb_BadRing_BadWay) (tak_cons (a := 5) (exm_of eC_BadRing cl_BadRing tC_BadRing sb_BadRing_BadRing) (tak_cons (a := 6) (exm_of eC_BadRing cl_BadRing tC_BadRing sb_BadRing_BadPaper) (tak_cons (a := 7) (exm_of eC_BadRing cl_BadRing tC_BadRing sb_BadRing_BadRides) (tak_cons (a := 8) (exm_of eC_BadRing cl_BadRing tC_BadRing sb_BadRing_BadText) (tak_cons (a := 9) (exm_of eC_BadRing cl_BadRing tC_BadRing sb_BadRing_BadDeed) (tak_cons (a := 10) (exm_of eC_BadRing cl_BadRing tC_BadRing sb_BadRing_TooMany) (tak_cons (a := 11) (exm_of eC_BadRing cl_BadRing tC_BadRing sb_BadRing_NotKept) (tak_cons (a := 12) (exm_of eC_BadRing cl_BadRing tC_BadRing sb_BadRing_NothingToUndo) tak_nil))))))))))))
  have fx_g_BadRing : mg "BadRing" = some (.ref (G.ca 5)) := PySem.W.mg_of X Gn aC_BadRing
  have fx_t_BadPaper : TakC G tk_BadPaper (.ref (G.ca 6)) := (tak_cons (a := 1) (exm_of eC_BadPaper cl_BadPaper tC_BadPaper sb_BadPaper_BadName) (tak_cons (a := 2) (exm_of eC_BadPaper cl_BadPaper tC_BadPaper sb_BadPaper_BadNumber) (tak_cons (a := 3) (exm_of eC_BadPaper cl_BadPaper tC_BadPaper sb_BadPaper_BadRows) (tak_cons (a := 4) (exm_of eC_BadPaper cl_BadPaper tC_BadPaper sb_BadPaper_BadWay) (tak_cons (a := 5) (exm_of eC_BadPaper cl_BadPaper tC_BadPaper sb_BadPaper_BadRing) (tak_cons (a := 6) (exm_of eC_BadPaper cl_BadPaper tC_BadPaper sb_BadPaper_BadPaper) (tak_cons (a := 7) (exm_of eC_BadPaper cl_BadPaper tC_BadPaper sb_BadPaper_BadRides) (tak_cons (a := 8) (exm_of eC_BadPaper cl_BadPaper tC_BadPaper sb_BadPaper_BadText) (tak_cons (a := 9) (exm_of eC_BadPaper cl_BadPaper tC_BadPaper sb_BadPaper_BadDeed) (tak_cons (a := 10) (exm_of eC_BadPaper cl_BadPaper tC_BadPaper sb_BadPaper_TooMany) (tak_cons (a := 11) (exm_of eC_BadPaper cl_BadPaper tC_BadPaper sb_BadPaper_NotKept) (tak_cons (a := 12) (exm_of eC_BadPaper cl_BadPaper tC_BadPaper sb_BadPaper_NothingToUndo) tak_nil))))))))))))
  have fx_g_BadPaper : mg "BadPaper" = some (.ref (G.ca 6)) := PySem.W.mg_of X Gn aC_BadPaper
  have fx_t_BadRides : TakC G tk_BadRides (.ref (G.ca 7)) := (tak_cons (a := 1) (exm_of eC_BadRides cl_BadRides tC_BadRides sb_BadRides_BadName) (tak_cons (a := 2) (exm_of eC_BadRides cl_BadRides tC_BadRides sb_BadRides_BadNumber) (tak_cons (a := 3) (exm_of eC_BadRides cl_BadRides tC_BadRides sb_BadRides_BadRows) (tak_cons (a := 4) (exm_of eC_BadRides cl_BadRides tC_BadRides sb_BadRides_BadWay) (tak_cons (a := 5) (exm_of eC_BadRides cl_BadRides tC_BadRides sb_BadRides_BadRing) (tak_cons (a := 6) (exm_of eC_BadRides cl_BadRides tC_BadRides sb_BadRides_BadPaper) (tak_cons (a := 7) (exm_of eC_BadRides cl_BadRides tC_BadRides sb_BadRides_BadRides) (tak_cons (a := 8) (exm_of eC_BadRides cl_BadRides tC_BadRides sb_BadRides_BadText) (tak_cons (a := 9) (exm_of eC_BadRides cl_BadRides tC_BadRides sb_BadRides_BadDeed) (tak_cons (a := 10) (exm_of eC_BadRides cl_BadRides tC_BadRides sb_BadRides_TooMany) (tak_cons (a := 11) (exm_of eC_BadRides cl_BadRides tC_BadRides sb_BadRides_NotKept) (tak_cons (a := 12) (exm_of eC_BadRides cl_BadRides tC_BadRides sb_BadRides_NothingToUndo) tak_nil))))))))))))
  have fx_g_BadRides : mg "BadRides" = some (.ref (G.ca 7)) := PySem.W.mg_of X Gn aC_BadRides
  have fx_t_BadText : TakC G tk_BadText (.ref (G.ca 8)) := (tak_cons (a := 1) (exm_of eC_BadText cl_BadText tC_BadText sb_BadText_BadName) (tak_cons (a := 2) (exm_of eC_BadText cl_BadText tC_BadText sb_BadText_BadNumber) (tak_cons (a := 3) (exm_of eC_BadText cl_BadText tC_BadText sb_BadText_BadRows) (tak_cons (a := 4) (exm_of eC_BadText cl_BadText tC_BadText sb_BadText_BadWay) (tak_cons (a := 5) (exm_of eC_BadText cl_BadText tC_BadText sb_BadText_BadRing) (tak_cons (a := 6) (exm_of eC_BadText cl_BadText tC_BadText sb_BadText_BadPaper) (tak_cons (a := 7) (exm_of eC_BadText cl_BadText tC_BadText sb_BadText_BadRides) (tak_cons (a := 8) (exm_of eC_BadText cl_BadText tC_BadText sb_BadText_BadText) (tak_cons (a := 9) (exm_of eC_BadText cl_BadText tC_BadText sb_BadText_BadDeed) (tak_cons (a := 10) (exm_of eC_BadText cl_BadText tC_BadText sb_BadText_TooMany) (tak_cons (a := 11) (exm_of eC_BadText cl_BadText tC_BadText sb_BadText_NotKept) (tak_cons (a := 12) (exm_of eC_BadText cl_BadText tC_BadText sb_BadText_NothingToUndo) tak_nil))))))))))))
  have fx_g_BadText : mg "BadText" = some (.ref (G.ca 8)) := PySem.W.mg_of X Gn aC_BadText
  have fx_t_BadDeed : TakC G tk_BadDeed (.ref (G.ca 9)) := (tak_cons (a := 1) (exm_of eC_BadDeed cl_BadDeed tC_BadDeed sb_BadDeed_BadName) (tak_cons (a := 2) (exm_of eC_BadDeed cl_BadDeed tC_BadDeed sb_BadDeed_BadNumber) (tak_cons (a := 3) (exm_of eC_BadDeed cl_BadDeed tC_BadDeed sb_BadDeed_BadRows) (tak_cons (a := 4) (exm_of eC_BadDeed cl_BadDeed tC_BadDeed sb_BadDeed_BadWay) (tak_cons (a := 5) (exm_of eC_BadDeed cl_BadDeed tC_BadDeed sb_BadDeed_BadRing) (tak_cons (a := 6) (exm_of eC_BadDeed cl_BadDeed tC_BadDeed sb_BadDeed_BadPaper) (tak_cons (a := 7) (exm_of eC_BadDeed cl_BadDeed tC_BadDeed sb_BadDeed_BadRides) (tak_cons (a := 8) (exm_of eC_BadDeed cl_BadDeed tC_BadDeed sb_BadDeed_BadText) (tak_cons (a := 9) (exm_of eC_BadDeed cl_BadDeed tC_BadDeed sb_BadDeed_BadDeed) (tak_cons (a := 10) (exm_of eC_BadDeed cl_BadDeed tC_BadDeed sb_BadDeed_TooMany) (tak_cons (a := 11) (exm_of eC_BadDeed cl_BadDeed tC_BadDeed sb_BadDeed_NotKept) (tak_cons (a := 12) (exm_of eC_BadDeed cl_BadDeed tC_BadDeed sb_BadDeed_NothingToUndo) tak_nil))))))))))))
  have fx_g_BadDeed : mg "BadDeed" = some (.ref (G.ca 9)) := PySem.W.mg_of X Gn aC_BadDeed
  have fx_t_TooMany : TakC G tk_TooMany (.ref (G.ca 10)) := (tak_cons (a := 1) (exm_of eC_TooMany cl_TooMany tC_TooMany sb_TooMany_BadName) (tak_cons (a := 2) (exm_of eC_TooMany cl_TooMany tC_TooMany sb_TooMany_BadNumber) (tak_cons (a := 3) (exm_of eC_TooMany cl_TooMany tC_TooMany sb_TooMany_BadRows) (tak_cons (a := 4) (exm_of eC_TooMany cl_TooMany tC_TooMany sb_TooMany_BadWay) (tak_cons (a := 5) (exm_of eC_TooMany cl_TooMany tC_TooMany sb_TooMany_BadRing) (tak_cons (a := 6) (exm_of eC_TooMany cl_TooMany tC_TooMany sb_TooMany_BadPaper) (tak_cons (a := 7) (exm_of eC_TooMany cl_TooMany tC_TooMany sb_TooMany_BadRides) (tak_cons (a := 8) (exm_of eC_TooMany cl_TooMany tC_TooMany sb_TooMany_BadText) (tak_cons (a := 9) (exm_of eC_TooMany cl_TooMany tC_TooMany sb_TooMany_BadDeed) (tak_cons (a := 10) (exm_of eC_TooMany cl_TooMany tC_TooMany sb_TooMany_TooMany) (tak_cons (a := 11) (exm_of eC_TooMany cl_TooMany tC_TooMany sb_TooMany_NotKept) (tak_cons (a := 12) (exm_of eC_TooMany cl_TooMany tC_TooMany sb_TooMany_NothingToUndo) tak_nil))))))))))))
  have fx_g_TooMany : mg "TooMany" = some (.ref (G.ca 10)) := PySem.W.mg_of X Gn aC_TooMany
  have fx_t_NotKept : TakC G tk_NotKept (.ref (G.ca 11)) := (tak_cons (a := 1) (exm_of eC_NotKept cl_NotKept tC_NotKept sb_NotKept_BadName) (tak_cons (a := 2) (exm_of eC_NotKept cl_NotKept tC_NotKept sb_NotKept_BadNumber) (tak_cons (a := 3) (exm_of eC_NotKept cl_NotKept tC_NotKept sb_NotKept_BadRows) (tak_cons (a := 4) (exm_of eC_NotKept cl_NotKept tC_NotKept sb_NotKept_BadWay) (tak_cons (a := 5) (exm_of eC_NotKept cl_NotKept tC_NotKept sb_NotKept_BadRing) (tak_cons (a := 6) (exm_of eC_NotKept cl_NotKept tC_NotKept sb_NotKept_BadPaper) (tak_cons (a := 7) (exm_of eC_NotKept cl_NotKept tC_NotKept sb_NotKept_BadRides) (tak_cons (a := 8) (exm_of eC_NotKept cl_NotKept tC_NotKept sb_NotKept_BadText) (tak_cons (a := 9) (exm_of eC_NotKept cl_NotKept tC_NotKept sb_NotKept_BadDeed) (tak_cons (a := 10) (exm_of eC_NotKept cl_NotKept tC_NotKept sb_NotKept_TooMany) (tak_cons (a := 11) (exm_of eC_NotKept cl_NotKept tC_NotKept sb_NotKept_NotKept) (tak_cons (a := 12) (exm_of eC_NotKept cl_NotKept tC_NotKept sb_NotKept_NothingToUndo) tak_nil))))))))))))
  have fx_g_NotKept : mg "NotKept" = some (.ref (G.ca 11)) := PySem.W.mg_of X Gn aC_NotKept
  have fx_t_NothingToUndo : TakC G tk_NothingToUndo (.ref (G.ca 12)) := (tak_cons (a := 1) (exm_of eC_NothingToUndo cl_NothingToUndo tC_NothingToUndo sb_NothingToUndo_BadName) (tak_cons (a := 2) (exm_of eC_NothingToUndo cl_NothingToUndo tC_NothingToUndo sb_NothingToUndo_BadNumber) (tak_cons (a := 3) (exm_of eC_NothingToUndo cl_NothingToUndo tC_NothingToUndo sb_NothingToUndo_BadRows) (tak_cons (a := 4) (exm_of eC_NothingToUndo cl_NothingToUndo tC_NothingToUndo sb_NothingToUndo_BadWay) (tak_cons (a := 5) (exm_of eC_NothingToUndo cl_NothingToUndo tC_NothingToUndo sb_NothingToUndo_BadRing) (tak_cons (a := 6) (exm_of eC_NothingToUndo cl_NothingToUndo tC_NothingToUndo sb_NothingToUndo_BadPaper) (tak_cons (a := 7) (exm_of eC_NothingToUndo cl_NothingToUndo tC_NothingToUndo sb_NothingToUndo_BadRides) (tak_cons (a := 8) (exm_of eC_NothingToUndo cl_NothingToUndo tC_NothingToUndo sb_NothingToUndo_BadText) (tak_cons (a := 9) (exm_of eC_NothingToUndo cl_NothingToUndo tC_NothingToUndo sb_NothingToUndo_BadDeed) (tak_cons (a := 10) (exm_of eC_NothingToUndo cl_NothingToUndo tC_NothingToUndo sb_NothingToUndo_TooMany) (tak_cons (a := 11) (exm_of eC_NothingToUndo cl_NothingToUndo tC_NothingToUndo sb_NothingToUndo_NotKept) (tak_cons (a := 12) (exm_of eC_NothingToUndo cl_NothingToUndo tC_NothingToUndo sb_NothingToUndo_NothingToUndo) tak_nil))))))))))))
  have fx_g_NothingToUndo : mg "NothingToUndo" = some (.ref (G.ca 12)) := PySem.W.mg_of X Gn aC_NothingToUndo
  have fx : Fx G mg := ⟨fx_b_ValueError, fx_b_abs, fx_b_int, fx_b_isinstance, fx_b_len, fx_b_list, fx_b_range, fx_a_end, fx_a_limit, fx_a_line, fx_a_name, fx_a_names, fx_a_place, fx_a_reason, fx_a_row, fx_a_start, fx_a_value, fx_a_what, fx_o_BadDeed, fx_o_BadName, fx_o_BadNumber, fx_o_BadPaper, fx_o_BadRides, fx_o_BadRing, fx_o_BadRows, fx_o_BadText, fx_o_BadWay, fx_o_CalendarError, fx_o_NotKept, fx_o_NothingToUndo, fx_o_TooMany, fx_v_ValueError, fx_t_CalendarError, fx_g_CalendarError, fx_t_BadName, fx_g_BadName, fx_t_BadNumber, fx_g_BadNumber, fx_t_BadRows, fx_g_BadRows, fx_t_BadWay, fx_g_BadWay, fx_t_BadRing, fx_g_BadRing, fx_t_BadPaper, fx_g_BadPaper, fx_t_BadRides, fx_g_BadRides, fx_t_BadText, fx_g_BadText, fx_t_BadDeed, fx_g_BadDeed, fx_t_TooMany, fx_g_TooMany, fx_t_NotKept, fx_g_NotKept, fx_t_NothingToUndo, fx_g_NothingToUndo⟩
  have bi_BadName : Binds K (PySem.W.ksFn "__init__" "BadName.__init__" (defArgs i_BadName) (defBody i_BadName) (defScope i_BadName) .none kV_BadName dc_BadName pm_BadName an_BadName (.ref cda_BadName) ct_BadName cc_BadName) ["self", "name"] [] := binds1 fun a b => rfl
  have bi_BadNumber : Binds K (PySem.W.ksFn "__init__" "BadNumber.__init__" (defArgs i_BadNumber) (defBody i_BadNumber) (defScope i_BadNumber) .none kV_BadNumber dc_BadNumber pm_BadNumber an_BadNumber (.ref cda_BadNumber) ct_BadNumber cc_BadNumber) ["self", "what", "value"] [] := binds2 fun a b c => rfl
  have bi_BadRows : Binds K (PySem.W.ksFn "__init__" "BadRows.__init__" (defArgs i_BadRows) (defBody i_BadRows) (defScope i_BadRows) .none kV_BadRows dc_BadRows pm_BadRows an_BadRows (.ref cda_BadRows) ct_BadRows cc_BadRows) ["self", "place"] [] := binds1 fun a b => rfl
  have bi_BadWay : Binds K (PySem.W.ksFn "__init__" "BadWay.__init__" (defArgs i_BadWay) (defBody i_BadWay) (defScope i_BadWay) .none kV_BadWay dc_BadWay pm_BadWay an_BadWay (.ref cda_BadWay) ct_BadWay cc_BadWay) ["self", "start", "end"] [] := binds2 fun a b c => rfl
  have bi_BadRing : Binds K (PySem.W.ksFn "__init__" "BadRing.__init__" (defArgs i_BadRing) (defBody i_BadRing) (defScope i_BadRing) .none kV_BadRing dc_BadRing pm_BadRing an_BadRing (.ref cda_BadRing) ct_BadRing cc_BadRing) ["self", "names"] [] := binds1 fun a b => rfl
  have bi_BadPaper : Binds K (PySem.W.ksFn "__init__" "BadPaper.__init__" (defArgs i_BadPaper) (defBody i_BadPaper) (defScope i_BadPaper) .none kV_BadPaper dc_BadPaper pm_BadPaper an_BadPaper (.ref cda_BadPaper) ct_BadPaper cc_BadPaper) ["self", "row", "reason"] [] := binds2 fun a b c => rfl
  have bi_BadRides : Binds K (PySem.W.ksFn "__init__" "BadRides.__init__" (defArgs i_BadRides) (defBody i_BadRides) (defScope i_BadRides) .none kV_BadRides dc_BadRides pm_BadRides an_BadRides (.ref cda_BadRides) ct_BadRides cc_BadRides) ["self", "place"] [] := binds1 fun a b => rfl
  have bi_BadText : Binds K (PySem.W.ksFn "__init__" "BadText.__init__" (defArgs i_BadText) (defBody i_BadText) (defScope i_BadText) .none kV_BadText dc_BadText pm_BadText an_BadText (.ref cda_BadText) ct_BadText cc_BadText) ["self", "line"] [] := binds1 fun a b => rfl
  have bi_BadDeed : Binds K (PySem.W.ksFn "__init__" "BadDeed.__init__" (defArgs i_BadDeed) (defBody i_BadDeed) (defScope i_BadDeed) .none kV_BadDeed dc_BadDeed pm_BadDeed an_BadDeed (.ref cda_BadDeed) ct_BadDeed cc_BadDeed) ["self", "place"] [] := binds1 fun a b => rfl
  have bi_TooMany : Binds K (PySem.W.ksFn "__init__" "TooMany.__init__" (defArgs i_TooMany) (defBody i_TooMany) (defScope i_TooMany) .none kV_TooMany dc_TooMany pm_TooMany an_TooMany (.ref cda_TooMany) ct_TooMany cc_TooMany) ["self", "limit"] [] := binds1 fun a b => rfl
  have be_NotKept : BareErr G mg "NotKept" 11 := ⟨⟨_, _, _, _, F.excBase_ValueError, xi_NotKept⟩, PySem.W.mg_of X Gn aC_NotKept, kC_NotKept, eC_NotKept, tC_NotKept⟩
  have be_NothingToUndo : BareErr G mg "NothingToUndo" 12 := ⟨⟨_, _, _, _, F.excBase_ValueError, xi_NothingToUndo⟩, PySem.W.mg_of X Gn aC_NothingToUndo, kC_NothingToUndo, eC_NothingToUndo, tC_NothingToUndo⟩
  have F__law_start := fun_mk (st := t__law_start) l__law_start c__law_start k__law_start
  have b__law_start := F__law_start.binds (ps := ["_law_script"]) fun _ _ _ _ _ _ us hl => match us, hl with | [_], _ => rfl
  have F__law_draw := fun_mk (st := t__law_draw) l__law_draw c__law_draw k__law_draw
  have b__law_draw := F__law_draw.binds (ps := ["_law_script", "_law_state", "_law_limit"]) fun _ _ _ _ _ _ us hl => match us, hl with | [_, _, _], _ => rfl
  have F__law_kinds := fun_mk (st := t__law_kinds) l__law_kinds c__law_kinds k__law_kinds
  have b__law_kinds := F__law_kinds.binds (ps := ["_law_fell"]) fun _ _ _ _ _ _ us hl => match us, hl with | [_], _ => rfl
  have F__law_throw := fun_mk (st := t__law_throw) l__law_throw c__law_throw k__law_throw
  have b__law_throw := F__law_throw.binds (ps := ["_law_kind", "_law_values_here"]) fun _ _ _ _ _ _ us hl => match us, hl with | [_, _], _ => rfl
  have F__law_caught := fun_mk (st := t__law_caught) l__law_caught c__law_caught k__law_caught
  have b__law_caught := F__law_caught.binds (ps := ["_law_kind", "_law_values_here"]) fun _ _ _ _ _ _ us hl => match us, hl with | [_, _], _ => rfl
  have F__law_holds := fun_mk (st := t__law_holds) l__law_holds c__law_holds k__law_holds
  have b__law_holds := F__law_holds.binds (ps := ["_law_fell", "_law_kind", "_law_values_here"]) fun _ _ _ _ _ _ us hl => match us, hl with | [_, _, _], _ => rfl
  have F__law_values := fun_mk (st := t__law_values) l__law_values c__law_values k__law_values
  have b__law_values := F__law_values.binds (ps := ["_law_script", "_law_state"]) fun _ _ _ _ _ _ us hl => match us, hl with | [_, _], _ => rfl
  have F_law := fun_mk (st := t_law) l_law c_law k_law
  refine ⟨PySem.W.fnOf "law" "law" (defArgs t_law) (defBody t_law) (defScope t_law) .none kV_law dc_law pm_law an_law cd_law ct_law, fun s v => .of_eq rfl, fun base _ _ => ?_⟩
  have e_BadName : OwnErr P w G mg base "BadName" 1 1 1 (mk1 ("name" : Str)) := ⟨ox_BadName, PySem.W.mg_of X Gn aC_BadName, _, _, _, iC_BadName, tI_BadName, bi_BadName, init_one (k := 0) (c := 1) (G := G) lI_BadName st_BadName si_BadName hfile htop ⟨_, rfl, rfl⟩ (fun _ => by kernel_rfl) (fun _ => by kernel_rfl) (fun _ => by kernel_rfl) ⟨by decide +kernel, by decide +kernel⟩ nf_BadName_name mk1_ok (fun A outer s H E => msg_const)⟩
  have e_BadNumber : OwnErr P w G mg base "BadNumber" 1 2 2 (mk2s ("what" : Str) ("value" : Str)) := ⟨ox_BadNumber, PySem.W.mg_of X Gn aC_BadNumber, _, _, _, iC_BadNumber, tI_BadNumber, bi_BadNumber, init_two (k := 0) (c := 2) (G := G) lI_BadNumber st_BadNumber si_BadNumber hfile htop ⟨_, rfl, rfl⟩ (fun _ => by kernel_rfl) (fun _ => by kernel_rfl) (fun _ => by kernel_rfl) ⟨by decide +kernel, by decide +kernel⟩ ⟨by decide +kernel, by decide +kernel⟩ nf_BadNumber_what nf_BadNumber_value mk2s_ok (fun A outer s H E => msg_f (i := 0) (by kernel_rfl) (by kernel_rfl) (by kernel_rfl) (by kernel_rfl) (by decide +kernel))⟩
  have e_BadRows : OwnErr P w G mg base "BadRows" 1 3 1 (mk1 ("place" : Str)) := ⟨ox_BadRows, PySem.W.mg_of X Gn aC_BadRows, _, _, _, iC_BadRows, tI_BadRows, bi_BadRows, init_one (k := 0) (c := 3) (G := G) lI_BadRows st_BadRows si_BadRows hfile htop ⟨_, rfl, rfl⟩ (fun _ => by kernel_rfl) (fun _ => by kernel_rfl) (fun _ => by kernel_rfl) ⟨by decide +kernel, by decide +kernel⟩ nf_BadRows_place mk1_ok (fun A outer s H E => msg_const)⟩
  have e_BadWay : OwnErr P w G mg base "BadWay" 1 4 2 (mk2 ("start" : Str) ("end" : Str)) := ⟨ox_BadWay, PySem.W.mg_of X Gn aC_BadWay, _, _, _, iC_BadWay, tI_BadWay, bi_BadWay, init_two (k := 0) (c := 4) (G := G) lI_BadWay st_BadWay si_BadWay hfile htop ⟨_, rfl, rfl⟩ (fun _ => by kernel_rfl) (fun _ => by kernel_rfl) (fun _ => by kernel_rfl) ⟨by decide +kernel, by decide +kernel⟩ ⟨by decide +kernel, by decide +kernel⟩ nf_BadWay_start nf_BadWay_end mk2_ok (fun A outer s H E => msg_const)⟩
  have e_BadRing : OwnErr P w G mg base "BadRing" 1 5 1 (mkL ("names" : Str)) := ⟨ox_BadRing, PySem.W.mg_of X Gn aC_BadRing, _, _, _, iC_BadRing, tI_BadRing, bi_BadRing, init_lst (k := 0) (c := 5) (G := G) lI_BadRing st_BadRing si_BadRing hfile htop ⟨_, rfl, rfl⟩ (fun _ => by kernel_rfl) (fun _ => by kernel_rfl) (fun _ => by kernel_rfl) (PySem.W.mg_none_of X Gn z_list) (by kernel_rfl) (fun _ => by kernel_rfl) ⟨by decide +kernel, by decide +kernel⟩ nf_BadRing_names⟩
  have e_BadPaper : OwnErr P w G mg base "BadPaper" 1 6 2 (mk2t ("row" : Str) ("reason" : Str)) := ⟨ox_BadPaper, PySem.W.mg_of X Gn aC_BadPaper, _, _, _, iC_BadPaper, tI_BadPaper, bi_BadPaper, init_two (k := 0) (c := 6) (G := G) lI_BadPaper st_BadPaper si_BadPaper hfile htop ⟨_, rfl, rfl⟩ (fun _ => by kernel_rfl) (fun _ => by kernel_rfl) (fun _ => by kernel_rfl) ⟨by decide +kernel, by decide +kernel⟩ ⟨by decide +kernel, by decide +kernel⟩ nf_BadPaper_row nf_BadPaper_reason mk2t_ok (fun A outer s H E => msg_f (i := 1) (by kernel_rfl) (by kernel_rfl) (by kernel_rfl) (by kernel_rfl) (by decide +kernel))⟩
  have e_BadRides : OwnErr P w G mg base "BadRides" 1 7 1 (mk1 ("place" : Str)) := ⟨ox_BadRides, PySem.W.mg_of X Gn aC_BadRides, _, _, _, iC_BadRides, tI_BadRides, bi_BadRides, init_one (k := 0) (c := 7) (G := G) lI_BadRides st_BadRides si_BadRides hfile htop ⟨_, rfl, rfl⟩ (fun _ => by kernel_rfl) (fun _ => by kernel_rfl) (fun _ => by kernel_rfl) ⟨by decide +kernel, by decide +kernel⟩ nf_BadRides_place mk1_ok (fun A outer s H E => msg_const)⟩
  have e_BadText : OwnErr P w G mg base "BadText" 1 8 1 (mk1 ("line" : Str)) := ⟨ox_BadText, PySem.W.mg_of X Gn aC_BadText, _, _, _, iC_BadText, tI_BadText, bi_BadText, init_one (k := 0) (c := 8) (G := G) lI_BadText st_BadText si_BadText hfile htop ⟨_, rfl, rfl⟩ (fun _ => by kernel_rfl) (fun _ => by kernel_rfl) (fun _ => by kernel_rfl) ⟨by decide +kernel, by decide +kernel⟩ nf_BadText_line mk1_ok (fun A outer s H E => msg_const)⟩
  have e_BadDeed : OwnErr P w G mg base "BadDeed" 1 9 1 (mk1 ("place" : Str)) := ⟨ox_BadDeed, PySem.W.mg_of X Gn aC_BadDeed, _, _, _, iC_BadDeed, tI_BadDeed, bi_BadDeed, init_one (k := 0) (c := 9) (G := G) lI_BadDeed st_BadDeed si_BadDeed hfile htop ⟨_, rfl, rfl⟩ (fun _ => by kernel_rfl) (fun _ => by kernel_rfl) (fun _ => by kernel_rfl) ⟨by decide +kernel, by decide +kernel⟩ nf_BadDeed_place mk1_ok (fun A outer s H E => msg_const)⟩
  have e_TooMany : OwnErr P w G mg base "TooMany" 1 10 1 (mk1 ("limit" : Str)) := ⟨ox_TooMany, PySem.W.mg_of X Gn aC_TooMany, _, _, _, iC_TooMany, tI_TooMany, bi_TooMany, init_one (k := 0) (c := 10) (G := G) lI_TooMany st_TooMany si_TooMany hfile htop ⟨_, rfl, rfl⟩ (fun _ => by kernel_rfl) (fun _ => by kernel_rfl) (fun _ => by kernel_rfl) ⟨by decide +kernel, by decide +kernel⟩ nf_TooMany_limit mk1_ok (fun A outer s H E => msg_const)⟩
  have c__law_start : Callee P w G mg base "_law_start" 1 ["_law_script"] m__law_start := ⟨_, _, PySem.W.mg_of X Gn a__law_start, k__law_start, b__law_start, ok__law_start fx F__law_start⟩
  have c__law_draw : Callee P w G mg base "_law_draw" 1 ["_law_script", "_law_state", "_law_limit"] m__law_draw := ⟨_, _, PySem.W.mg_of X Gn a__law_draw, k__law_draw, b__law_draw, ok__law_draw fx F__law_draw⟩
  have c__law_kinds : Callee P w G mg base "_law_kinds" 1 ["_law_fell"] m__law_kinds := ⟨_, _, PySem.W.mg_of X Gn a__law_kinds, k__law_kinds, b__law_kinds, ok__law_kinds fx F__law_kinds⟩
  have c__law_throw : Callee P w G mg base "_law_throw" 3 ["_law_kind", "_law_values_here"] m__law_throw := ⟨_, _, PySem.W.mg_of X Gn a__law_throw, k__law_throw, b__law_throw, ok__law_throw fx e_BadName e_BadNumber e_BadRows e_BadWay e_BadRing e_BadPaper e_BadRides e_BadText e_BadDeed e_TooMany be_NotKept be_NothingToUndo F__law_throw⟩
  have c__law_caught : Callee P w G mg base "_law_caught" 4 ["_law_kind", "_law_values_here"] m__law_caught := ⟨_, _, PySem.W.mg_of X Gn a__law_caught, k__law_caught, b__law_caught, ok__law_caught fx c__law_throw F__law_caught⟩
  have c__law_holds : Callee P w G mg base "_law_holds" 2 ["_law_fell", "_law_kind", "_law_values_here"] m__law_holds := ⟨_, _, PySem.W.mg_of X Gn a__law_holds, k__law_holds, b__law_holds, ok__law_holds fx c__law_kinds F__law_holds⟩
  have c__law_values : Callee P w G mg base "_law_values" 2 ["_law_script", "_law_state"] m__law_values := ⟨_, _, PySem.W.mg_of X Gn a__law_values, k__law_values, b__law_values, ok__law_values fx c__law_draw F__law_values⟩
  exact law_to (G := G) (ok_law fx c__law_start c__law_values c__law_caught c__law_holds F_law) (fun ns c _ hc => law_spec ns c hc)
end K83
open PySem PySem.W PyProof.Rows in
set_option maxRecDepth 100000 in
set_option maxHeartbeats 0 in
theorem PySem.Challenge.cw_laterways_k83_kinds_of_errors_holds : PySem.Challenge.rw_laterways_k83_kinds_of_errors.Holds := by
  w_on; o_law; k_head; (case hw => w_witness2)
  k_fill
  refine ML.law_walk (l := PySem.Challenge.rw_laterways_k83_kinds_of_errors) (k := 5) (x := "_law_script") rfl rfl ⟨rfl, by decide, by decide⟩ (fun w h Y => PySem.W.kIn_of Y) ?F
  case F =>
    intro w mg fa h KX G hmg
    refine' K83.all_mk KX G hmg ?hfile ?htop ?z_ValueError ?z_abs ?z_int ?z_isinstance ?z_len ?z_list ?z_range ?z_super ?z_tp ?x_hn ?x_ht ?aC_CalendarError ?aC_BadName ?aC_BadNumber ?aC_BadRows ?aC_BadWay ?aC_BadRing ?aC_BadPaper ?aC_BadRides ?aC_BadText ?aC_BadDeed ?aC_TooMany ?aC_NotKept ?aC_NothingToUndo ?xL_CalendarError ?eC_CalendarError ?tC_CalendarError ?cl_CalendarError ?mr_CalendarError ?sb_CalendarError_BadName ?sb_CalendarError_BadNumber ?sb_CalendarError_BadRows ?sb_CalendarError_BadWay ?sb_CalendarError_BadRing ?sb_CalendarError_BadPaper ?sb_CalendarError_BadRides ?sb_CalendarError_BadText ?sb_CalendarError_BadDeed ?sb_CalendarError_TooMany ?sb_CalendarError_NotKept ?sb_CalendarError_NothingToUndo ?xL_BadName ?eC_BadName ?tC_BadName ?cl_BadName ?mr_BadName ?sb_BadName_BadName ?sb_BadName_BadNumber ?sb_BadName_BadRows ?sb_BadName_BadWay ?sb_BadName_BadRing ?sb_BadName_BadPaper ?sb_BadName_BadRides ?sb_BadName_BadText ?sb_BadName_BadDeed ?sb_BadName_TooMany ?sb_BadName_NotKept ?sb_BadName_NothingToUndo ?xL_BadNumber ?eC_BadNumber ?tC_BadNumber ?cl_BadNumber ?mr_BadNumber ?sb_BadNumber_BadName ?sb_BadNumber_BadNumber ?sb_BadNumber_BadRows ?sb_BadNumber_BadWay ?sb_BadNumber_BadRing ?sb_BadNumber_BadPaper ?sb_BadNumber_BadRides ?sb_BadNumber_BadText ?sb_BadNumber_BadDeed ?sb_BadNumber_TooMany ?sb_BadNumber_NotKept ?sb_BadNumber_NothingToUndo ?xL_BadRows ?eC_BadRows ?tC_BadRows ?cl_BadRows ?mr_BadRows ?sb_BadRows_BadName ?sb_BadRows_BadNumber ?sb_BadRows_BadRows ?sb_BadRows_BadWay ?sb_BadRows_BadRing ?sb_BadRows_BadPaper ?sb_BadRows_BadRides ?sb_BadRows_BadText ?sb_BadRows_BadDeed ?sb_BadRows_TooMany ?sb_BadRows_NotKept ?sb_BadRows_NothingToUndo ?xL_BadWay ?eC_BadWay ?tC_BadWay ?cl_BadWay ?mr_BadWay ?sb_BadWay_BadName ?sb_BadWay_BadNumber ?sb_BadWay_BadRows ?sb_BadWay_BadWay ?sb_BadWay_BadRing ?sb_BadWay_BadPaper ?sb_BadWay_BadRides ?sb_BadWay_BadText ?sb_BadWay_BadDeed ?sb_BadWay_TooMany ?sb_BadWay_NotKept ?sb_BadWay_NothingToUndo ?xL_BadRing ?eC_BadRing ?tC_BadRing ?cl_BadRing ?mr_BadRing ?sb_BadRing_BadName ?sb_BadRing_BadNumber ?sb_BadRing_BadRows ?sb_BadRing_BadWay ?sb_BadRing_BadRing ?sb_BadRing_BadPaper ?sb_BadRing_BadRides ?sb_BadRing_BadText ?sb_BadRing_BadDeed ?sb_BadRing_TooMany ?sb_BadRing_NotKept ?sb_BadRing_NothingToUndo ?xL_BadPaper ?eC_BadPaper ?tC_BadPaper ?cl_BadPaper ?mr_BadPaper ?sb_BadPaper_BadName ?sb_BadPaper_BadNumber ?sb_BadPaper_BadRows ?sb_BadPaper_BadWay ?sb_BadPaper_BadRing ?sb_BadPaper_BadPaper ?sb_BadPaper_BadRides ?sb_BadPaper_BadText ?sb_BadPaper_BadDeed ?sb_BadPaper_TooMany ?sb_BadPaper_NotKept ?sb_BadPaper_NothingToUndo ?xL_BadRides ?eC_BadRides ?tC_BadRides ?cl_BadRides ?mr_BadRides ?sb_BadRides_BadName ?sb_BadRides_BadNumber ?sb_BadRides_BadRows ?sb_BadRides_BadWay ?sb_BadRides_BadRing ?sb_BadRides_BadPaper ?sb_BadRides_BadRides ?sb_BadRides_BadText ?sb_BadRides_BadDeed ?sb_BadRides_TooMany ?sb_BadRides_NotKept ?sb_BadRides_NothingToUndo ?xL_BadText ?eC_BadText ?tC_BadText ?cl_BadText ?mr_BadText ?sb_BadText_BadName ?sb_BadText_BadNumber ?sb_BadText_BadRows ?sb_BadText_BadWay ?sb_BadText_BadRing ?sb_BadText_BadPaper ?sb_BadText_BadRides ?sb_BadText_BadText ?sb_BadText_BadDeed ?sb_BadText_TooMany ?sb_BadText_NotKept ?sb_BadText_NothingToUndo ?xL_BadDeed ?eC_BadDeed ?tC_BadDeed ?cl_BadDeed ?mr_BadDeed ?sb_BadDeed_BadName ?sb_BadDeed_BadNumber ?sb_BadDeed_BadRows ?sb_BadDeed_BadWay ?sb_BadDeed_BadRing ?sb_BadDeed_BadPaper ?sb_BadDeed_BadRides ?sb_BadDeed_BadText ?sb_BadDeed_BadDeed ?sb_BadDeed_TooMany ?sb_BadDeed_NotKept ?sb_BadDeed_NothingToUndo ?xL_TooMany ?eC_TooMany ?tC_TooMany ?cl_TooMany ?mr_TooMany ?sb_TooMany_BadName ?sb_TooMany_BadNumber ?sb_TooMany_BadRows ?sb_TooMany_BadWay ?sb_TooMany_BadRing ?sb_TooMany_BadPaper ?sb_TooMany_BadRides ?sb_TooMany_BadText ?sb_TooMany_BadDeed ?sb_TooMany_TooMany ?sb_TooMany_NotKept ?sb_TooMany_NothingToUndo ?xL_NotKept ?eC_NotKept ?tC_NotKept ?cl_NotKept ?mr_NotKept ?sb_NotKept_BadName ?sb_NotKept_BadNumber ?sb_NotKept_BadRows ?sb_NotKept_BadWay ?sb_NotKept_BadRing ?sb_NotKept_BadPaper ?sb_NotKept_BadRides ?sb_NotKept_BadText ?sb_NotKept_BadDeed ?sb_NotKept_TooMany ?sb_NotKept_NotKept ?sb_NotKept_NothingToUndo ?xL_NothingToUndo ?eC_NothingToUndo ?tC_NothingToUndo ?cl_NothingToUndo ?mr_NothingToUndo ?sb_NothingToUndo_BadName ?sb_NothingToUndo_BadNumber ?sb_NothingToUndo_BadRows ?sb_NothingToUndo_BadWay ?sb_NothingToUndo_BadRing ?sb_NothingToUndo_BadPaper ?sb_NothingToUndo_BadRides ?sb_NothingToUndo_BadText ?sb_NothingToUndo_BadDeed ?sb_NothingToUndo_TooMany ?sb_NothingToUndo_NotKept ?sb_NothingToUndo_NothingToUndo ?fi_CalendarError ?rb_BadName ?sa_BadName ?kC_BadName ?ga_BadName ?gg_BadName ?hd_BadName ?ha_BadName ?hm_BadName ?sv_BadName ?nf_BadName_name ?rb_BadNumber ?sa_BadNumber ?kC_BadNumber ?ga_BadNumber ?gg_BadNumber ?hd_BadNumber ?ha_BadNumber ?hm_BadNumber ?sv_BadNumber ?nf_BadNumber_what ?nf_BadNumber_value ?rb_BadRows ?sa_BadRows ?kC_BadRows ?ga_BadRows ?gg_BadRows ?hd_BadRows ?ha_BadRows ?hm_BadRows ?sv_BadRows ?nf_BadRows_place ?rb_BadWay ?sa_BadWay ?kC_BadWay ?ga_BadWay ?gg_BadWay ?hd_BadWay ?ha_BadWay ?hm_BadWay ?sv_BadWay ?nf_BadWay_start ?nf_BadWay_end ?rb_BadRing ?sa_BadRing ?kC_BadRing ?ga_BadRing ?gg_BadRing ?hd_BadRing ?ha_BadRing ?hm_BadRing ?sv_BadRing ?nf_BadRing_names ?rb_BadPaper ?sa_BadPaper ?kC_BadPaper ?ga_BadPaper ?gg_BadPaper ?hd_BadPaper ?ha_BadPaper ?hm_BadPaper ?sv_BadPaper ?nf_BadPaper_row ?nf_BadPaper_reason ?rb_BadRides ?sa_BadRides ?kC_BadRides ?ga_BadRides ?gg_BadRides ?hd_BadRides ?ha_BadRides ?hm_BadRides ?sv_BadRides ?nf_BadRides_place ?rb_BadText ?sa_BadText ?kC_BadText ?ga_BadText ?gg_BadText ?hd_BadText ?ha_BadText ?hm_BadText ?sv_BadText ?nf_BadText_line ?rb_BadDeed ?sa_BadDeed ?kC_BadDeed ?ga_BadDeed ?gg_BadDeed ?hd_BadDeed ?ha_BadDeed ?hm_BadDeed ?sv_BadDeed ?nf_BadDeed_place ?rb_TooMany ?sa_TooMany ?kC_TooMany ?ga_TooMany ?gg_TooMany ?hd_TooMany ?ha_TooMany ?hm_TooMany ?sv_TooMany ?nf_TooMany_limit ?xi_NotKept ?kC_NotKept ?ga_NotKept ?gg_NotKept ?hd_NotKept ?ha_NotKept ?hm_NotKept ?sv_NotKept ?xi_NothingToUndo ?kC_NothingToUndo ?ga_NothingToUndo ?gg_NothingToUndo ?hd_NothingToUndo ?ha_NothingToUndo ?hm_NothingToUndo ?sv_NothingToUndo ?iC_BadName ?tI_BadName ?lI_BadName ?lC_BadName ?vC_BadName ?cQ_BadName ?ce_BadName ?iC_BadNumber ?tI_BadNumber ?lI_BadNumber ?lC_BadNumber ?vC_BadNumber ?cQ_BadNumber ?ce_BadNumber ?iC_BadRows ?tI_BadRows ?lI_BadRows ?lC_BadRows ?vC_BadRows ?cQ_BadRows ?ce_BadRows ?iC_BadWay ?tI_BadWay ?lI_BadWay ?lC_BadWay ?vC_BadWay ?cQ_BadWay ?ce_BadWay ?iC_BadRing ?tI_BadRing ?lI_BadRing ?lC_BadRing ?vC_BadRing ?cQ_BadRing ?ce_BadRing ?iC_BadPaper ?tI_BadPaper ?lI_BadPaper ?lC_BadPaper ?vC_BadPaper ?cQ_BadPaper ?ce_BadPaper ?iC_BadRides ?tI_BadRides ?lI_BadRides ?lC_BadRides ?vC_BadRides ?cQ_BadRides ?ce_BadRides ?iC_BadText ?tI_BadText ?lI_BadText ?lC_BadText ?vC_BadText ?cQ_BadText ?ce_BadText ?iC_BadDeed ?tI_BadDeed ?lI_BadDeed ?lC_BadDeed ?vC_BadDeed ?cQ_BadDeed ?ce_BadDeed ?iC_TooMany ?tI_TooMany ?lI_TooMany ?lC_TooMany ?vC_TooMany ?cQ_TooMany ?ce_TooMany ?a__law_start ?l__law_start ?c__law_start ?k__law_start ?a__law_draw ?l__law_draw ?c__law_draw ?k__law_draw ?a__law_kinds ?l__law_kinds ?c__law_kinds ?k__law_kinds ?a__law_throw ?l__law_throw ?c__law_throw ?k__law_throw ?a__law_caught ?l__law_caught ?c__law_caught ?k__law_caught ?a__law_holds ?l__law_holds ?c__law_holds ?k__law_holds ?a__law_values ?l__law_values ?c__law_values ?k__law_values ?a_law ?l_law ?c_law ?k_law
    (case hfile => kernel_rfl)
    (case htop => kernel_rfl)
    (case z_ValueError => k_is)
    (case z_abs => k_is)
    (case z_int => k_is)
    (case z_isinstance => k_is)
    (case z_len => k_is)
    (case z_list => k_is)
    (case z_range => k_is)
    (case z_super => k_is)
    (case z_tp => k_is)
    (case x_hn => k_is)
    (case x_ht => k_is)
    (case aC_CalendarError => k_is)
    (case aC_BadName => k_is)
    (case aC_BadNumber => k_is)
    (case aC_BadRows => k_is)
    (case aC_BadWay => k_is)
    (case aC_BadRing => k_is)
    (case aC_BadPaper => k_is)
    (case aC_BadRides => k_is)
    (case aC_BadText => k_is)
    (case aC_BadDeed => k_is)
    (case aC_TooMany => k_is)
    (case aC_NotKept => k_is)
    (case aC_NothingToUndo => k_is)
    (case xL_CalendarError => k_is)
    (case eC_CalendarError => k_is)
    (case tC_CalendarError => k_is)
    (case cl_CalendarError => k_is)
    (case mr_CalendarError => k_is)
    (case sb_CalendarError_BadName => k_is)
    (case sb_CalendarError_BadNumber => k_is)
    (case sb_CalendarError_BadRows => k_is)
    (case sb_CalendarError_BadWay => k_is)
    (case sb_CalendarError_BadRing => k_is)
    (case sb_CalendarError_BadPaper => k_is)
    (case sb_CalendarError_BadRides => k_is)
    (case sb_CalendarError_BadText => k_is)
    (case sb_CalendarError_BadDeed => k_is)
    (case sb_CalendarError_TooMany => k_is)
    (case sb_CalendarError_NotKept => k_is)
    (case sb_CalendarError_NothingToUndo => k_is)
    (case xL_BadName => k_is)
    (case eC_BadName => k_is)
    (case tC_BadName => k_is)
    (case cl_BadName => k_is)
    (case mr_BadName => k_is)
    (case sb_BadName_BadName => k_is)
    (case sb_BadName_BadNumber => k_is)
    (case sb_BadName_BadRows => k_is)
    (case sb_BadName_BadWay => k_is)
    (case sb_BadName_BadRing => k_is)
    (case sb_BadName_BadPaper => k_is)
    (case sb_BadName_BadRides => k_is)
    (case sb_BadName_BadText => k_is)
    (case sb_BadName_BadDeed => k_is)
    (case sb_BadName_TooMany => k_is)
    (case sb_BadName_NotKept => k_is)
    (case sb_BadName_NothingToUndo => k_is)
    (case xL_BadNumber => k_is)
    (case eC_BadNumber => k_is)
    (case tC_BadNumber => k_is)
    (case cl_BadNumber => k_is)
    (case mr_BadNumber => k_is)
    (case sb_BadNumber_BadName => k_is)
    (case sb_BadNumber_BadNumber => k_is)
    (case sb_BadNumber_BadRows => k_is)
    (case sb_BadNumber_BadWay => k_is)
    (case sb_BadNumber_BadRing => k_is)
    (case sb_BadNumber_BadPaper => k_is)
    (case sb_BadNumber_BadRides => k_is)
    (case sb_BadNumber_BadText => k_is)
    (case sb_BadNumber_BadDeed => k_is)
    (case sb_BadNumber_TooMany => k_is)
    (case sb_BadNumber_NotKept => k_is)
    (case sb_BadNumber_NothingToUndo => k_is)
    (case xL_BadRows => k_is)
    (case eC_BadRows => k_is)
    (case tC_BadRows => k_is)
    (case cl_BadRows => k_is)
    (case mr_BadRows => k_is)
    (case sb_BadRows_BadName => k_is)
    (case sb_BadRows_BadNumber => k_is)
    (case sb_BadRows_BadRows => k_is)
    (case sb_BadRows_BadWay => k_is)
    (case sb_BadRows_BadRing => k_is)
    (case sb_BadRows_BadPaper => k_is)
    (case sb_BadRows_BadRides => k_is)
    (case sb_BadRows_BadText => k_is)
    (case sb_BadRows_BadDeed => k_is)
    (case sb_BadRows_TooMany => k_is)
    (case sb_BadRows_NotKept => k_is)
    (case sb_BadRows_NothingToUndo => k_is)
    (case xL_BadWay => k_is)
    (case eC_BadWay => k_is)
    (case tC_BadWay => k_is)
    (case cl_BadWay => k_is)
    (case mr_BadWay => k_is)
    (case sb_BadWay_BadName => k_is)
    (case sb_BadWay_BadNumber => k_is)
    (case sb_BadWay_BadRows => k_is)
    (case sb_BadWay_BadWay => k_is)
    (case sb_BadWay_BadRing => k_is)
    (case sb_BadWay_BadPaper => k_is)
    (case sb_BadWay_BadRides => k_is)
    (case sb_BadWay_BadText => k_is)
    (case sb_BadWay_BadDeed => k_is)
    (case sb_BadWay_TooMany => k_is)
    (case sb_BadWay_NotKept => k_is)
    (case sb_BadWay_NothingToUndo => k_is)
    (case xL_BadRing => k_is)
    (case eC_BadRing => k_is)
    (case tC_BadRing => k_is)
    (case cl_BadRing => k_is)
    (case mr_BadRing => k_is)
    (case sb_BadRing_BadName => k_is)
    (case sb_BadRing_BadNumber => k_is)
    (case sb_BadRing_BadRows => k_is)
    (case sb_BadRing_BadWay => k_is)
    (case sb_BadRing_BadRing => k_is)
    (case sb_BadRing_BadPaper => k_is)
    (case sb_BadRing_BadRides => k_is)
    (case sb_BadRing_BadText => k_is)
    (case sb_BadRing_BadDeed => k_is)
    (case sb_BadRing_TooMany => k_is)
    (case sb_BadRing_NotKept => k_is)
    (case sb_BadRing_NothingToUndo => k_is)
    (case xL_BadPaper => k_is)
    (case eC_BadPaper => k_is)
    (case tC_BadPaper => k_is)
    (case cl_BadPaper => k_is)
    (case mr_BadPaper => k_is)
    (case sb_BadPaper_BadName => k_is)
    (case sb_BadPaper_BadNumber => k_is)
    (case sb_BadPaper_BadRows => k_is)
    (case sb_BadPaper_BadWay => k_is)
    (case sb_BadPaper_BadRing => k_is)
    (case sb_BadPaper_BadPaper => k_is)
    (case sb_BadPaper_BadRides => k_is)
    (case sb_BadPaper_BadText => k_is)
    (case sb_BadPaper_BadDeed => k_is)
    (case sb_BadPaper_TooMany => k_is)
    (case sb_BadPaper_NotKept => k_is)
    (case sb_BadPaper_NothingToUndo => k_is)
    (case xL_BadRides => k_is)
    (case eC_BadRides => k_is)
    (case tC_BadRides => k_is)
    (case cl_BadRides => k_is)
    (case mr_BadRides => k_is)
    (case sb_BadRides_BadName => k_is)
    (case sb_BadRides_BadNumber => k_is)
    (case sb_BadRides_BadRows => k_is)
    (case sb_BadRides_BadWay => k_is)
    (case sb_BadRides_BadRing => k_is)
    (case sb_BadRides_BadPaper => k_is)
    (case sb_BadRides_BadRides => k_is)
    (case sb_BadRides_BadText => k_is)
    (case sb_BadRides_BadDeed => k_is)
    (case sb_BadRides_TooMany => k_is)
    (case sb_BadRides_NotKept => k_is)
    (case sb_BadRides_NothingToUndo => k_is)
    (case xL_BadText => k_is)
    (case eC_BadText => k_is)
    (case tC_BadText => k_is)
    (case cl_BadText => k_is)
    (case mr_BadText => k_is)
    (case sb_BadText_BadName => k_is)
    (case sb_BadText_BadNumber => k_is)
    (case sb_BadText_BadRows => k_is)
    (case sb_BadText_BadWay => k_is)
    (case sb_BadText_BadRing => k_is)
    (case sb_BadText_BadPaper => k_is)
    (case sb_BadText_BadRides => k_is)
    (case sb_BadText_BadText => k_is)
    (case sb_BadText_BadDeed => k_is)
    (case sb_BadText_TooMany => k_is)
    (case sb_BadText_NotKept => k_is)
    (case sb_BadText_NothingToUndo => k_is)
    (case xL_BadDeed => k_is)
    (case eC_BadDeed => k_is)
    (case tC_BadDeed => k_is)
    (case cl_BadDeed => k_is)
    (case mr_BadDeed => k_is)
    (case sb_BadDeed_BadName => k_is)
    (case sb_BadDeed_BadNumber => k_is)
    (case sb_BadDeed_BadRows => k_is)
    (case sb_BadDeed_BadWay => k_is)
    (case sb_BadDeed_BadRing => k_is)
    (case sb_BadDeed_BadPaper => k_is)
    (case sb_BadDeed_BadRides => k_is)
    (case sb_BadDeed_BadText => k_is)
    (case sb_BadDeed_BadDeed => k_is)
    (case sb_BadDeed_TooMany => k_is)
    (case sb_BadDeed_NotKept => k_is)
    (case sb_BadDeed_NothingToUndo => k_is)
    (case xL_TooMany => k_is)
    (case eC_TooMany => k_is)
    (case tC_TooMany => k_is)
    (case cl_TooMany => k_is)
    (case mr_TooMany => k_is)
    (case sb_TooMany_BadName => k_is)
    (case sb_TooMany_BadNumber => k_is)
    (case sb_TooMany_BadRows => k_is)
    (case sb_TooMany_BadWay => k_is)
    (case sb_TooMany_BadRing => k_is)
    (case sb_TooMany_BadPaper => k_is)
    (case sb_TooMany_BadRides => k_is)
    (case sb_TooMany_BadText => k_is)
    (case sb_TooMany_BadDeed => k_is)
    (case sb_TooMany_TooMany => k_is)
    (case sb_TooMany_NotKept => k_is)
    (case sb_TooMany_NothingToUndo => k_is)
    (case xL_NotKept => k_is)
    (case eC_NotKept => k_is)
    (case tC_NotKept => k_is)
    (case cl_NotKept => k_is)
    (case mr_NotKept => k_is)
    (case sb_NotKept_BadName => k_is)
    (case sb_NotKept_BadNumber => k_is)
    (case sb_NotKept_BadRows => k_is)
    (case sb_NotKept_BadWay => k_is)
    (case sb_NotKept_BadRing => k_is)
    (case sb_NotKept_BadPaper => k_is)
    (case sb_NotKept_BadRides => k_is)
    (case sb_NotKept_BadText => k_is)
    (case sb_NotKept_BadDeed => k_is)
    (case sb_NotKept_TooMany => k_is)
    (case sb_NotKept_NotKept => k_is)
    (case sb_NotKept_NothingToUndo => k_is)
    (case xL_NothingToUndo => k_is)
    (case eC_NothingToUndo => k_is)
    (case tC_NothingToUndo => k_is)
    (case cl_NothingToUndo => k_is)
    (case mr_NothingToUndo => k_is)
    (case sb_NothingToUndo_BadName => k_is)
    (case sb_NothingToUndo_BadNumber => k_is)
    (case sb_NothingToUndo_BadRows => k_is)
    (case sb_NothingToUndo_BadWay => k_is)
    (case sb_NothingToUndo_BadRing => k_is)
    (case sb_NothingToUndo_BadPaper => k_is)
    (case sb_NothingToUndo_BadRides => k_is)
    (case sb_NothingToUndo_BadText => k_is)
    (case sb_NothingToUndo_BadDeed => k_is)
    (case sb_NothingToUndo_TooMany => k_is)
    (case sb_NothingToUndo_NotKept => k_is)
    (case sb_NothingToUndo_NothingToUndo => k_is)
    (case fi_CalendarError => k_is)
    (case rb_BadName => decide +kernel)
    (case sa_BadName => k_is)
    (case kC_BadName => k_is)
    (case ga_BadName => k_is)
    (case gg_BadName => k_is)
    (case hd_BadName => k_is)
    (case ha_BadName => k_is)
    (case hm_BadName => k_is)
    (case sv_BadName => k_is)
    (case nf_BadName_name => k_is)
    (case rb_BadNumber => decide +kernel)
    (case sa_BadNumber => k_is)
    (case kC_BadNumber => k_is)
    (case ga_BadNumber => k_is)
    (case gg_BadNumber => k_is)
    (case hd_BadNumber => k_is)
    (case ha_BadNumber => k_is)
    (case hm_BadNumber => k_is)
    (case sv_BadNumber => k_is)
    (case nf_BadNumber_what => k_is)
    (case nf_BadNumber_value => k_is)
    (case rb_BadRows => decide +kernel)
    (case sa_BadRows => k_is)
    (case kC_BadRows => k_is)
    (case ga_BadRows => k_is)
    (case gg_BadRows => k_is)
    (case hd_BadRows => k_is)
    (case ha_BadRows => k_is)
    (case hm_BadRows => k_is)
    (case sv_BadRows => k_is)
    (case nf_BadRows_place => k_is)
    (case rb_BadWay => decide +kernel)
    (case sa_BadWay => k_is)
    (case kC_BadWay => k_is)
    (case ga_BadWay => k_is)
    (case gg_BadWay => k_is)
    (case hd_BadWay => k_is)
    (case ha_BadWay => k_is)
    (case hm_BadWay => k_is)
    (case sv_BadWay => k_is)
    (case nf_BadWay_start => k_is)
    (case nf_BadWay_end => k_is)
    (case rb_BadRing => decide +kernel)
    (case sa_BadRing => k_is)
    (case kC_BadRing => k_is)
    (case ga_BadRing => k_is)
    (case gg_BadRing => k_is)
    (case hd_BadRing => k_is)
    (case ha_BadRing => k_is)
    (case hm_BadRing => k_is)
    (case sv_BadRing => k_is)
    (case nf_BadRing_names => k_is)
    (case rb_BadPaper => decide +kernel)
    (case sa_BadPaper => k_is)
    (case kC_BadPaper => k_is)
    (case ga_BadPaper => k_is)
    (case gg_BadPaper => k_is)
    (case hd_BadPaper => k_is)
    (case ha_BadPaper => k_is)
    (case hm_BadPaper => k_is)
    (case sv_BadPaper => k_is)
    (case nf_BadPaper_row => k_is)
    (case nf_BadPaper_reason => k_is)
    (case rb_BadRides => decide +kernel)
    (case sa_BadRides => k_is)
    (case kC_BadRides => k_is)
    (case ga_BadRides => k_is)
    (case gg_BadRides => k_is)
    (case hd_BadRides => k_is)
    (case ha_BadRides => k_is)
    (case hm_BadRides => k_is)
    (case sv_BadRides => k_is)
    (case nf_BadRides_place => k_is)
    (case rb_BadText => decide +kernel)
    (case sa_BadText => k_is)
    (case kC_BadText => k_is)
    (case ga_BadText => k_is)
    (case gg_BadText => k_is)
    (case hd_BadText => k_is)
    (case ha_BadText => k_is)
    (case hm_BadText => k_is)
    (case sv_BadText => k_is)
    (case nf_BadText_line => k_is)
    (case rb_BadDeed => decide +kernel)
    (case sa_BadDeed => k_is)
    (case kC_BadDeed => k_is)
    (case ga_BadDeed => k_is)
    (case gg_BadDeed => k_is)
    (case hd_BadDeed => k_is)
    (case ha_BadDeed => k_is)
    (case hm_BadDeed => k_is)
    (case sv_BadDeed => k_is)
    (case nf_BadDeed_place => k_is)
    (case rb_TooMany => decide +kernel)
    (case sa_TooMany => k_is)
    (case kC_TooMany => k_is)
    (case ga_TooMany => k_is)
    (case gg_TooMany => k_is)
    (case hd_TooMany => k_is)
    (case ha_TooMany => k_is)
    (case hm_TooMany => k_is)
    (case sv_TooMany => k_is)
    (case nf_TooMany_limit => k_is)
    (case xi_NotKept => k_exc)
    (case kC_NotKept => k_is)
    (case ga_NotKept => k_is)
    (case gg_NotKept => k_is)
    (case hd_NotKept => k_is)
    (case ha_NotKept => k_is)
    (case hm_NotKept => k_is)
    (case sv_NotKept => k_is)
    (case xi_NothingToUndo => k_exc)
    (case kC_NothingToUndo => k_is)
    (case ga_NothingToUndo => k_is)
    (case gg_NothingToUndo => k_is)
    (case hd_NothingToUndo => k_is)
    (case ha_NothingToUndo => k_is)
    (case hm_NothingToUndo => k_is)
    (case sv_NothingToUndo => k_is)
    (case iC_BadName => k_is)
    (case tI_BadName => k_is)
    (case lI_BadName => k_is)
    (case lC_BadName => k_is)
    (case vC_BadName => first | rfl | decide +kernel)
    (case cQ_BadName => k_is)
    (case ce_BadName => k_is)
    (case iC_BadNumber => k_is)
    (case tI_BadNumber => k_is)
    (case lI_BadNumber => k_is)
    (case lC_BadNumber => k_is)
    (case vC_BadNumber => first | rfl | decide +kernel)
    (case cQ_BadNumber => k_is)
    (case ce_BadNumber => k_is)
    (case iC_BadRows => k_is)
    (case tI_BadRows => k_is)
    (case lI_BadRows => k_is)
    (case lC_BadRows => k_is)
    (case vC_BadRows => first | rfl | decide +kernel)
    (case cQ_BadRows => k_is)
    (case ce_BadRows => k_is)
    (case iC_BadWay => k_is)
    (case tI_BadWay => k_is)
    (case lI_BadWay => k_is)
    (case lC_BadWay => k_is)
    (case vC_BadWay => first | rfl | decide +kernel)
    (case cQ_BadWay => k_is)
    (case ce_BadWay => k_is)
    (case iC_BadRing => k_is)
    (case tI_BadRing => k_is)
    (case lI_BadRing => k_is)
    (case lC_BadRing => k_is)
    (case vC_BadRing => first | rfl | decide +kernel)
    (case cQ_BadRing => k_is)
    (case ce_BadRing => k_is)
    (case iC_BadPaper => k_is)
    (case tI_BadPaper => k_is)
    (case lI_BadPaper => k_is)
    (case lC_BadPaper => k_is)
    (case vC_BadPaper => first | rfl | decide +kernel)
    (case cQ_BadPaper => k_is)
    (case ce_BadPaper => k_is)
    (case iC_BadRides => k_is)
    (case tI_BadRides => k_is)
    (case lI_BadRides => k_is)
    (case lC_BadRides => k_is)
    (case vC_BadRides => first | rfl | decide +kernel)
    (case cQ_BadRides => k_is)
    (case ce_BadRides => k_is)
    (case iC_BadText => k_is)
    (case tI_BadText => k_is)
    (case lI_BadText => k_is)
    (case lC_BadText => k_is)
    (case vC_BadText => first | rfl | decide +kernel)
    (case cQ_BadText => k_is)
    (case ce_BadText => k_is)
    (case iC_BadDeed => k_is)
    (case tI_BadDeed => k_is)
    (case lI_BadDeed => k_is)
    (case lC_BadDeed => k_is)
    (case vC_BadDeed => first | rfl | decide +kernel)
    (case cQ_BadDeed => k_is)
    (case ce_BadDeed => k_is)
    (case iC_TooMany => k_is)
    (case tI_TooMany => k_is)
    (case lI_TooMany => k_is)
    (case lC_TooMany => k_is)
    (case vC_TooMany => first | rfl | decide +kernel)
    (case cQ_TooMany => k_is)
    (case ce_TooMany => k_is)
    (case a__law_start => k_is)
    (case l__law_start => k_is)
    (case c__law_start => k_is)
    (case k__law_start => k_is)
    (case a__law_draw => k_is)
    (case l__law_draw => k_is)
    (case c__law_draw => k_is)
    (case k__law_draw => k_is)
    (case a__law_kinds => k_is)
    (case l__law_kinds => k_is)
    (case c__law_kinds => k_is)
    (case k__law_kinds => k_is)
    (case a__law_throw => k_is)
    (case l__law_throw => k_is)
    (case c__law_throw => k_is)
    (case k__law_throw => k_is)
    (case a__law_caught => k_is)
    (case l__law_caught => k_is)
    (case c__law_caught => k_is)
    (case k__law_caught => k_is)
    (case a__law_holds => k_is)
    (case l__law_holds => k_is)
    (case c__law_holds => k_is)
    (case k__law_holds => k_is)
    (case a__law_values => k_is)
    (case l__law_values => k_is)
    (case c__law_values => k_is)
    (case k__law_values => k_is)
    (case a_law => k_is)
    (case l_law => k_is)
    (case c_law => k_is)
    (case k_law => k_is)
