import PyProof.Rows.All
import Wide.All
import OpenK.AllK
import Wide.FinOn
import HandS.ForMost
import HandS.Exc
import HandS.ExcOwn
import HandS.WordsExc
import HandS.CallSlots
import HandS.IsInst
import HandS.FStr
import HandS.Flow
import HandS.TupAny
import HandS.ExcInit
import KE.KExcSuper
import KE.KExcIs
import KE.KIsAll
import HandS.Iter
import HandS.Text
import HandS.Small
import HandS.SlotsOwn
import PyProof.InstEq
import KE.GoesEnum
import HandS.Star
import HandS.Style
import KE.KRevSl
import PySem.Challenge.RW_laterways_k14_meetings
set_option Elab.async false
set_option linter.all false
set_option maxRecDepth 100000
set_option maxHeartbeats 4000000
namespace ML
open PySem L2

/-! ### values without addresses, a heap without addresses -/
inductive U where
  | non | bl (b : Bool) | int (i : Int) | str (x : Str) | tup (ws : List U) | ref (i : Nat)

inductive Cell where
  | lst (ws : List U)
  | frz (ws : List U)
  | ins (c : Nat) (fs : List (Str × U))
  | exc (c : Nat) (fs : List (Str × U))
def Cell.live : Cell → Bool
  | .frz _ => false
  | .exc _ _ => false
  | _ => true
abbrev Hm := List Cell
inductive Rz (α : Type) where
  | ok (a : α) (h : Hm)
  | ex (c : Nat) (fs : List (Str × U)) (h : Hm)
abbrev Ev := List (Option U)
/-- an expression, a test, arguments -/
abbrev ME := Ev → Hm → Option (Rz U)
abbrev MT := Ev → Hm → Option (Rz Bool)
abbrev MA := Ev → Hm → Option (Rz (List U))
/-- a def -/
abbrev MF := List U → Hm → Option (Rz U)

/-- sequence -/
def bnd {α β : Type} (x : Option (Rz α)) (k : α → Hm → Option (Rz β)) : Option (Rz β) :=
  match x with
  | some (.ok a h) => k a h
  | some (.ex c fs h) => some (.ex c fs h)
  | none => none
@[simp] theorem bnd_ok {α β : Type} (a : α) (h : Hm) (k : α → Hm → Option (Rz β)) : bnd (some (.ok a h)) k = k a h := rfl
@[simp] theorem bnd_ex {α β : Type} (c fs h) (k : α → Hm → Option (Rz β)) : bnd (some (.ex c fs h)) k = some (.ex c fs h) := rfl
@[simp] theorem bnd_none {α β : Type} (k : α → Hm → Option (Rz β)) : bnd none k = none := rfl

/-! ### what a value of the one is in the other -/
structure Gm where
  K : PySem.W.Frag
  ca : Nat → Addr

mutual
def RU (K : PySem.W.Frag) (μ : Nat → Addr) (n : Nat) (H : Hp) : U → V → Prop
  | .non, v => v = .non
  | .bl b, v => v = .bl b
  | .int i, v => v = .int i
  | .str x, v => v = .str x
  | .ref i, v => i < n ∧ v = .ref (μ i)
  | .tup ws, v => ∃ a xs, v = .ref a ∧ SqT K H a xs ∧ RUs K μ n H ws xs
def RUs (K : PySem.W.Frag) (μ : Nat → Addr) (n : Nat) (H : Hp) : List U → List V → Prop
  | [], xs => xs = []
  | w :: ws, xs => ∃ y ys, xs = y :: ys ∧ RU K μ n H w y ∧ RUs K μ n H ws ys
end

def RFs (K : PySem.W.Frag) (μ : Nat → Addr) (n : Nat) (H : Hp) : List (Str × U) → List (Str × V) → Prop
  | [], gs => gs = []
  | (f, w) :: fs, gs => ∃ y ys, gs = (f, y) :: ys ∧ RU K μ n H w y ∧ RFs K μ n H fs ys

/-- tuples stay -/
def TS0 (K : PySem.W.Frag) (H H' : Hp) : Prop := ∀ a xs, SqT K H a xs → SqT K H' a xs
theorem TS0.refl (K : PySem.W.Frag) (H : Hp) : TS0 K H H := fun _ _ h => h
theorem TS0.trans {K : PySem.W.Frag} {H H1 H2 : Hp} (a : TS0 K H H1) (b : TS0 K H1 H2) : TS0 K H H2 := fun x y h => b x y (a x y h)

mutual
theorem RU.mono {K : PySem.W.Frag} {μ μ' : Nat → Addr} {n n' : Nat} {H H' : Hp} (hm : ∀ i, i < n → μ' i = μ i) (hn : n ≤ n') (ht : TS0 K H H') : ∀ (w : U) (v : V), RU K μ n H w v → RU K μ' n' H' w v
  | .non, v, h => by simpa [RU] using h
  | .bl b, v, h => by simpa [RU] using h
  | .int i, v, h => by simpa [RU] using h
  | .str x, v, h => by simpa [RU] using h
  | .ref i, v, h => by
    simp only [RU] at h ⊢
    exact ⟨Nat.lt_of_lt_of_le h.1 hn, by rw [hm i h.1]; exact h.2⟩
  | .tup ws, v, h => by
    simp only [RU] at h ⊢
    obtain ⟨a, xs, e, s, r⟩ := h
    exact ⟨a, xs, e, ht a xs s, RUs.mono hm hn ht ws xs r⟩
theorem RUs.mono {K : PySem.W.Frag} {μ μ' : Nat → Addr} {n n' : Nat} {H H' : Hp} (hm : ∀ i, i < n → μ' i = μ i) (hn : n ≤ n') (ht : TS0 K H H') : ∀ (ws : List U) (xs : List V), RUs K μ n H ws xs → RUs K μ' n' H' ws xs
  | [], xs, h => by simpa [RUs] using h
  | w :: ws, xs, h => by
    simp only [RUs] at h ⊢
    obtain ⟨y, ys, e, r, rs⟩ := h
    exact ⟨y, ys, e, RU.mono hm hn ht w y r, RUs.mono hm hn ht ws ys rs⟩
end
theorem RFs.mono {K : PySem.W.Frag} {μ μ' : Nat → Addr} {n n' : Nat} {H H' : Hp} (hm : ∀ i, i < n → μ' i = μ i) (hn : n ≤ n') (ht : TS0 K H H') : ∀ (fs : List (Str × U)) (gs : List (Str × V)), RFs K μ n H fs gs → RFs K μ' n' H' fs gs
  | [], gs, h => by simpa [RFs] using h
  | (f, w) :: fs, gs, h => by
    simp only [RFs] at h ⊢
    obtain ⟨y, ys, e, r, rs⟩ := h
    exact ⟨y, ys, e, r.mono hm hn ht, RFs.mono hm hn ht fs ys rs⟩

theorem RUs.length {K : PySem.W.Frag} {μ : Nat → Addr} {n : Nat} {H : Hp} : ∀ {ws : List U} {xs : List V}, RUs K μ n H ws xs → xs.length = ws.length
  | [], xs, h => by simp only [RUs] at h; subst h; rfl
  | w :: ws, xs, h => by
    simp only [RUs] at h
    obtain ⟨y, ys, rfl, _, rs⟩ := h
    simp [RUs.length rs]
theorem RUs.get {K : PySem.W.Frag} {μ : Nat → Addr} {n : Nat} {H : Hp} : ∀ {ws : List U} {xs : List V} {i : Nat} {w : U}, RUs K μ n H ws xs → ws[i]? = some w → ∃ v, xs[i]? = some v ∧ RU K μ n H w v
  | [], xs, i, w, _, e => by simp at e
  | u :: ws, xs, 0, w, h, e => by
    simp only [RUs] at h
    obtain ⟨y, ys, rfl, r, _⟩ := h
    simp at e
    subst e
    exact ⟨y, rfl, r⟩
  | u :: ws, xs, i + 1, w, h, e => by
    simp only [RUs] at h
    obtain ⟨y, ys, rfl, _, rs⟩ := h
    obtain ⟨v, e1, r⟩ := RUs.get (i := i) rs (by simpa using e)
    exact ⟨v, by simpa using e1, r⟩
theorem RUs.append {K : PySem.W.Frag} {μ : Nat → Addr} {n : Nat} {H : Hp} : ∀ {ws us : List U} {xs ys : List V}, RUs K μ n H ws xs → RUs K μ n H us ys → RUs K μ n H (ws ++ us) (xs ++ ys)
  | [], us, xs, ys, h, q => by simp only [RUs] at h; subst h; exact q
  | w :: ws, us, xs, ys, h, q => by
    simp only [RUs] at h
    obtain ⟨y, zs, rfl, r, rs⟩ := h
    show RUs K μ n H (w :: (ws ++ us)) (y :: (zs ++ ys))
    simp only [RUs]
    exact ⟨y, _, rfl, r, rs.append q⟩
theorem RUs.cons {K : PySem.W.Frag} {μ : Nat → Addr} {n : Nat} {H : Hp} {w : U} {v : V} {ws : List U} {xs : List V} (r : RU K μ n H w v) (rs : RUs K μ n H ws xs) : RUs K μ n H (w :: ws) (v :: xs) := by
  simp only [RUs]
  exact ⟨v, xs, rfl, r, rs⟩
theorem RUs.nil {K : PySem.W.Frag} {μ : Nat → Addr} {n : Nat} {H : Hp} : RUs K μ n H [] [] := by simp only [RUs]
theorem RUs.set {K : PySem.W.Frag} {μ : Nat → Addr} {n : Nat} {H : Hp} {w : U} {v : V} (r : RU K μ n H w v) : ∀ {ws : List U} {xs : List V} (i : Nat), RUs K μ n H ws xs → RUs K μ n H (ws.set i w) (xs.set i v)
  | [], xs, i, h => by simp only [RUs] at h; subst h; simp [RUs]
  | u :: ws, xs, 0, h => by
    simp only [RUs] at h
    obtain ⟨y, ys, rfl, _, rs⟩ := h
    exact RUs.cons r rs
  | u :: ws, xs, i + 1, h => by
    simp only [RUs] at h
    obtain ⟨y, ys, rfl, q, rs⟩ := h
    exact RUs.cons q (RUs.set r i rs)
theorem RUs.take {K : PySem.W.Frag} {μ : Nat → Addr} {n : Nat} {H : Hp} : ∀ {ws : List U} {xs : List V} (i : Nat), RUs K μ n H ws xs → RUs K μ n H (ws.take i) (xs.take i)
  | ws, xs, 0, h => by simp [RUs]
  | [], xs, i + 1, h => by simp only [RUs] at h; subst h; simp [RUs]
  | u :: ws, xs, i + 1, h => by
    simp only [RUs] at h
    obtain ⟨y, ys, rfl, q, rs⟩ := h
    exact RUs.cons q (RUs.take i rs)
theorem RUs.drop {K : PySem.W.Frag} {μ : Nat → Addr} {n : Nat} {H : Hp} : ∀ {ws : List U} {xs : List V} (i : Nat), RUs K μ n H ws xs → RUs K μ n H (ws.drop i) (xs.drop i)
  | ws, xs, 0, h => h
  | [], xs, i + 1, h => by simp only [RUs] at h; subst h; simp [RUs]
  | u :: ws, xs, i + 1, h => by
    simp only [RUs] at h
    obtain ⟨y, ys, rfl, q, rs⟩ := h
    exact RUs.drop i rs

/-! ### cells -/
/-- a list that is read only -/
def SqF (K : PySem.W.Frag) (H : Hp) (a : Addr) (xs : List V) : Prop :=
  (∃ o, H a = some (.frz o (.lst xs))) ∨
    ∃ (o : Obj) (its : Array Value) (n : Nat), K.lookup a = some o ∧ o.cls = .type "list" ∧ o.dict = none ∧ o.data = .seq its n ∧ its.size ≤ sizeLine ∧ Vals xs its.toList
theorem SqF.sql {K : PySem.W.Frag} {H : Hp} {a : Addr} {xs : List V} (h : SqF K H a xs) : SqL K H a xs := by
  rcases h with ⟨o, h⟩ | h
  · exact .inl (.inr ⟨o, h⟩)
  · exact .inr h
/-- an exception object of the class cls at a, its own dict d -/
def ExV (cls : Value) (d : Option Addr) (a : Addr) : HO := .ext fun h => ∃ (oe : Obj) (vs : Array Value), h.get? a = some oe ∧ Zc cls d oe ∧ oe.data = .fields vs
/-- what is known of an exception's fields -/
def RX (K : PySem.W.Frag) (μ : Nat → Addr) (n : Nat) (H : Hp) (ca : Nat → Addr) (c : Nat) (fs : List (Str × U)) (cls : Value) (d : Option Addr) : Prop :=
  cls = .ref (ca c) ∧ ((fs = [] ∧ d = none) ∨ ∃ dd gs, d = some dd ∧ H dd = some (.xd gs) ∧ RFs K μ n H fs gs)
def RCell (G : Gm) (μ : Nat → Addr) (n : Nat) (H : Hp) (a : Addr) : Cell → Prop
  | .lst ws => ∃ xs, H a = some (.lst xs) ∧ RUs G.K μ n H ws xs
  | .frz ws => ∃ xs, SqF G.K H a xs ∧ RUs G.K μ n H ws xs
  | .ins c fs => ∃ dx gs, H a = some (.ins (G.ca c) dx gs) ∧ RFs G.K μ n H fs gs
  | .exc c fs => ∃ cls d, H a = some (ExV cls d a) ∧ RX G.K μ n H G.ca c fs cls d
structure HRel (G : Gm) (μ : Nat → Addr) (h : Hm) (H : Hp) : Prop where
  cell : ∀ (i : Nat) (c : Cell), h[i]? = some c → RCell G μ h.length H (μ i) c
  inj : ∀ (i j : Nat) (c d : Cell), h[i]? = some c → h[j]? = some d → c.live = true → d.live = true → μ i = μ j → i = j
/-- one step on: more cells, what was known of tuples is known -/
structure Gr (G : Gm) (μ : Nat → Addr) (h : Hm) (H : Hp) (μ' : Nat → Addr) (h' : Hm) (H' : Hp) : Prop where
  len : h.length ≤ h'.length
  mu : ∀ i, i < h.length → μ' i = μ i
  tup : TS0 G.K H H'
  rel : HRel G μ' h' H'
section
variable {G : Gm} {μ μ' μ1 μ2 : Nat → Addr} {h h' h1 h2 : Hm} {H H' H1 H2 : Hp}
theorem Gr.refl (r : HRel G μ h H) : Gr G μ h H μ h H := ⟨Nat.le_refl _, fun _ _ => rfl, TS0.refl _ _, r⟩
theorem Gr.trans (a : Gr G μ h H μ1 h1 H1) (b : Gr G μ1 h1 H1 μ2 h2 H2) : Gr G μ h H μ2 h2 H2 :=
  ⟨Nat.le_trans a.len b.len, fun i hi => (b.mu i (Nat.lt_of_lt_of_le hi a.len)).trans (a.mu i hi), a.tup.trans b.tup, b.rel⟩
theorem Gr.ru (g : Gr G μ h H μ' h' H') {w : U} {v : V} (r : RU G.K μ h.length H w v) : RU G.K μ' h'.length H' w v := RU.mono g.mu g.len g.tup w v r
theorem Gr.rus (g : Gr G μ h H μ' h' H') {ws : List U} {vs : List V} (r : RUs G.K μ h.length H ws vs) : RUs G.K μ' h'.length H' ws vs := RUs.mono g.mu g.len g.tup ws vs r
theorem Gr.rfs (g : Gr G μ h H μ' h' H') {ws : List (Str × U)} {vs : List (Str × V)} (r : RFs G.K μ h.length H ws vs) : RFs G.K μ' h'.length H' ws vs := RFs.mono g.mu g.len g.tup ws vs r
end

/-- behind a computation: whatever heap stands behind it -/
def Post {α : Type} (G : Gm) (P : (Nat → Addr) → Hm → Hp → α → Prop) (E : XK) (μ : Nat → Addr) (h : Hm) (H : Hp) (r : Option (Rz α)) : Prop :=
  match r with
  | some (.ok a h') => ∀ μ' H', Gr G μ h H μ' h' H' → P μ' h' H' a
  | some (.ex c fs h') => ∀ μ' H' cls d, Gr G μ h H μ' h' H' → RX G.K μ' h'.length H' G.ca c fs cls d → E cls d H'
  | none => False
section
variable {α β : Type} {G : Gm} {P P' : (Nat → Addr) → Hm → Hp → α → Prop} {R : (Nat → Addr) → Hm → Hp → β → Prop} {E : XK} {μ : Nat → Addr} {h : Hm} {H : Hp}
theorem Post.mono {r : Option (Rz α)} (p : Post G P E μ h H r) (k : ∀ μ' h' H' a, Gr G μ h H μ' h' H' → P μ' h' H' a → P' μ' h' H' a) : Post G P' E μ h H r := by
  cases r with
  | none => exact p
  | some r =>
    cases r with
    | ok a h' => exact fun μ' H' g => k μ' h' H' a g (p μ' H' g)
    | ex c fs h' => exact p
theorem Post.bnd {x : Option (Rz α)} {k : α → Hm → Option (Rz β)} (p : Post G R E μ h H (bnd x k)) : Post G (fun μ1 h1 H1 a => Post G R E μ1 h1 H1 (k a h1)) E μ h H x := by
  cases x with
  | none => exact p
  | some r =>
    cases r with
    | ex c fs h' => exact p
    | ok a h1 =>
      intro μ1 H1 g1
      have p : Post G R E μ h H (k a h1) := p
      show Post G R E μ1 h1 H1 (k a h1)
      cases e : k a h1 with
      | none => rw [e] at p; exact p
      | some r =>
        rw [e] at p
        cases r with
        | ok b h2 => exact fun μ2 H2 g2 => p μ2 H2 (g1.trans g2)
        | ex c fs h2 => exact fun μ2 H2 cls d g2 rx => p μ2 H2 cls d (g1.trans g2) rx
theorem Post.ok {a : α} (r : HRel G μ h H) (p : Post G P E μ h H (some (.ok a h))) : P μ h H a := p μ H (Gr.refl r)
end

/-- the slots -/
structure StOk (G : Gm) (μ : Nat → Addr) (ρ : Ev) (h : Hm) (σ : St) (H : Hp) : Prop where
  rel : HRel G μ h H
  len : ρ.length = σ.length
  slot : ∀ (i : Nat) (w : U), ρ[i]? = some (some w) → ∃ v, σ[i]? = some (some v) ∧ RU G.K μ h.length H w v
section
variable {G : Gm} {μ μ' : Nat → Addr} {ρ : Ev} {h h' : Hm} {σ : St} {H H' : Hp}
theorem StOk.on (s : StOk G μ ρ h σ H) (g : Gr G μ h H μ' h' H') : StOk G μ' ρ h' σ H' :=
  ⟨g.rel, s.len, fun i w e => by obtain ⟨v, e1, r⟩ := s.slot i w e; exact ⟨v, e1, g.ru r⟩⟩
theorem StOk.set {w : U} {v : V} (s : StOk G μ ρ h σ H) (i : Nat) (r : RU G.K μ h.length H w v) : StOk G μ (ρ.set i (some w)) h (σ.set i (some v)) H := by
  refine ⟨s.rel, by simp [s.len], fun j u e => ?_⟩
  by_cases hj : i = j
  · subst hj
    by_cases hlt : i < ρ.length
    · rw [List.getElem?_set_self hlt] at e
      cases e
      exact ⟨v, List.getElem?_set_self (by rw [← s.len]; exact hlt), r⟩
    · rw [List.getElem?_eq_none (by simpa using hlt)] at e
      cases e
  · rw [List.getElem?_set_ne hj] at e ⊢
    exact s.slot j u e
theorem StOk.unset (s : StOk G μ ρ h σ H) (i : Nat) : StOk G μ (ρ.set i none) h (σ.set i none) H := by
  refine ⟨s.rel, by simp [s.len], fun j u e => ?_⟩
  by_cases hj : i = j
  · subst hj
    by_cases hlt : i < ρ.length
    · rw [List.getElem?_set_self hlt] at e
      cases e
    · rw [List.getElem?_eq_none (by simpa using hlt)] at e
      cases e
  · rw [List.getElem?_set_ne hj] at e ⊢
    exact s.slot j u e
end

/-! ### the readings of the layer, by such computations -/
def tE (G : Gm) (Wx : WX) (m : ME) : TE := fun σ H Q => ∃ μ ρ h, StOk G μ ρ h σ H ∧ Post G (fun μ' h' H' w => ∀ v, RU G.K μ' h'.length H' w v → Q v H') (fun cls d H' => Wx cls d σ H') μ h H (m ρ h)
def tT (G : Gm) (Wx : WX) (m : MT) : TT := fun σ H Q => ∃ μ ρ h, StOk G μ ρ h σ H ∧ Post G (fun _ _ H' b => Q b H') (fun cls d H' => Wx cls d σ H') μ h H (m ρ h)
def tA (G : Gm) (Wx : WX) (m : MA) : TA := fun σ H Q => ∃ μ ρ h, StOk G μ ρ h σ H ∧ Post G (fun μ' h' H' ws => ∀ vs, RUs G.K μ' h'.length H' ws vs → Q vs H') (fun cls d H' => Wx cls d σ H') μ h H (m ρ h)

theorem _root_.L2.PE.weak {X : Cx} {e : Expr} {t t' : TE} (h : PE X e t) (w : ∀ σ H Q, t' σ H Q → t σ H Q) : PE X e t' := ⟨fun pins s σ H Q I q => h.run pins s σ H Q I (w σ H Q q)⟩
theorem _root_.L2.PT.weak {X : Cx} {e : Expr} {t t' : TT} (h : PT X e t) (w : ∀ σ H Q, t' σ H Q → t σ H Q) : PT X e t' := ⟨fun pins s σ H Q I q => h.run pins s σ H Q I (w σ H Q q)⟩
theorem _root_.L2.PW.weak {X : Cx} {e : Expr} {t t' : TT} (h : PW X e t) (w : ∀ σ H Q, t' σ H Q → t σ H Q) : PW X e t' := ⟨fun wh pins s σ H Q I q => h.run wh pins s σ H Q I (w σ H Q q)⟩
theorem _root_.L2.PA.weak {X : Cx} {es : List Expr} {t t' : TA} (h : PA X es t) (w : ∀ σ H Q, t' σ H Q → t σ H Q) : PA X es t' := ⟨fun pos pins s σ H Q I q => h.run pos pins s σ H Q I (w σ H Q q)⟩
theorem _root_.L2.PS.weak {X : Cx} {st : Stmt} {t t' : TS} (h : PS X st t) (w : ∀ D σ H, t' D σ H → t D σ H) : PS X st t' := ⟨fun pins s σ H D I q => h.run pins s σ H D I (w D σ H q)⟩
theorem _root_.L2.PSs.weak {X : Cx} {st : List Stmt} {t t' : TS} (h : PSs X st t) (w : ∀ D σ H, t' D σ H → t D σ H) : PSs X st t' := ⟨fun pins s σ H D I q => h.run pins s σ H D I (w D σ H q)⟩
end ML

set_option maxHeartbeats 4000000
namespace ML
open PySem L2
section
variable {G : Gm} {μ μ' : Nat → Addr} {h h' : Hm} {H H' : Hp} {p a : Addr} {o : HO} {c d : Cell} {n : Nat}

theorem RU.same {K : PySem.W.Frag} {μ : Nat → Addr} {n : Nat} {H H' : Hp} (ht : TS0 K H H') {w : U} {v : V} (r : RU K μ n H w v) : RU K μ n H' w v := RU.mono (fun _ _ => rfl) (Nat.le_refl _) ht w v r
theorem RUs.same {K : PySem.W.Frag} {μ : Nat → Addr} {n : Nat} {H H' : Hp} (ht : TS0 K H H') {w : List U} {v : List V} (r : RUs K μ n H w v) : RUs K μ n H' w v := RUs.mono (fun _ _ => rfl) (Nat.le_refl _) ht w v r

theorem TS0.fresh {K : PySem.W.Frag} (hp : H p = none) : TS0 K H (upd H p o) := fun a xs s => by
  rcases s with (s | ⟨ob, s⟩) | s
  · exact .inl (.inl (by rw [upd_ne (ne_of_none s hp)]; exact s))
  · exact .inl (.inr ⟨ob, by rw [upd_ne (ne_of_none s hp)]; exact s⟩)
  · exact .inr s
/-- what may be changed in its place: not what others lean on -/
def Wr : HO → Bool
  | .lst _ => true
  | .ins _ _ _ => true
  | .dK _ => true
  | .dT _ => true
  | _ => false
theorem TS0.write {K : PySem.W.Frag} {u : HO} (hp : H p = some u) (hu : Wr u = true) : TS0 K H (upd H p o) := fun a xs s => by
  have ne : ∀ {b w}, H b = some w → Wr w = false → b ≠ p := fun {b w} e q z => by
    subst z
    rw [hp] at e
    cases e
    rw [hu] at q
    cases q
  rcases s with (s | ⟨ob, s⟩) | s
  · exact .inl (.inl (by rw [upd_ne (ne s rfl)]; exact s))
  · exact .inl (.inr ⟨ob, by rw [upd_ne (ne s rfl)]; exact s⟩)
  · exact .inr s

/-- a cell's reading leans on these alone -/
theorem RCell.keep (r : RCell G μ n H a c) (hm : ∀ i, i < n → μ' i = μ i) (hn : n ≤ h'.length) (ht : TS0 G.K H H')
    (k : ∀ b u, (b = a ∨ Wr u = false) → H b = some u → H' b = some u) : RCell G μ' h'.length H' a c := by
  cases c with
  | lst ws => obtain ⟨xs, e, q⟩ := r; exact ⟨xs, k _ _ (.inl rfl) e, RUs.mono hm hn ht _ _ q⟩
  | frz ws =>
    obtain ⟨xs, e, q⟩ := r
    refine ⟨xs, ?_, RUs.mono hm hn ht _ _ q⟩
    rcases e with ⟨ob, e⟩ | e
    · exact .inl ⟨ob, k _ _ (.inl rfl) e⟩
    · exact .inr e
  | ins cn fs => obtain ⟨dx, gs, e, q⟩ := r; exact ⟨dx, gs, k _ _ (.inl rfl) e, RFs.mono hm hn ht _ _ q⟩
  | exc cn fs =>
    obtain ⟨cls, dd, e, q1, q2⟩ := r
    refine ⟨cls, dd, k _ _ (.inl rfl) e, q1, ?_⟩
    rcases q2 with q2 | ⟨d1, gs, e1, e2, q2⟩
    · exact .inl q2
    · exact .inr ⟨d1, gs, e1, k _ _ (.inr rfl) e2, RFs.mono hm hn ht _ _ q2⟩

def nu (μ : Nat → Addr) (n : Nat) (p : Addr) : Nat → Addr := fun i => if i = n then p else μ i
theorem nu_old {i : Nat} (hi : i < n) : nu μ n p i = μ i := if_neg (Nat.ne_of_lt hi)
theorem nu_new : nu μ n p n = p := if_pos rfl

theorem live_at (r : RCell G μ n H a c) (l : c.live = true) : ∃ u, H a = some u ∧ Wr u = true := by
  cases c with
  | lst ws => obtain ⟨xs, e, _⟩ := r; exact ⟨_, e, rfl⟩
  | frz ws => cases l
  | ins cn fs => obtain ⟨dx, gs, e, _⟩ := r; exact ⟨_, e, rfl⟩
  | exc cn fs => cases l

/-- a new object, a new cell -/
theorem Gr.new (r : HRel G μ h H) (hp : H p = none) (hc : RCell G (nu μ h.length p) (h.length + 1) (upd H p o) p c) : Gr G μ h H (nu μ h.length p) (h ++ [c]) (upd H p o) := by
  refine ⟨by simp, fun i hi => nu_old hi, TS0.fresh hp, ⟨fun i d e => ?_, fun i j c1 c2 e1 e2 l1 l2 q => ?_⟩⟩
  · by_cases hi : i < h.length
    · rw [List.getElem?_append_left hi] at e
      rw [nu_old hi]
      exact RCell.keep (r.cell i d e) (fun j hj => nu_old hj) (by simp) (TS0.fresh hp) fun b u _ z => by rw [upd_ne (ne_of_none z hp)]; exact z
    · have hi2 : i = h.length := by
        have := (List.getElem?_eq_some_iff.mp e).1
        simp at this
        omega
      subst hi2
      simp at e
      subst e
      rw [nu_new]
      simpa using hc
  · have cs : ∀ (i : Nat) (c1 : Cell), (h ++ [c])[i]? = some c1 → (i < h.length ∧ h[i]? = some c1) ∨ i = h.length := fun i c1 e => by
      by_cases hi : i < h.length
      · rw [List.getElem?_append_left hi] at e
        exact .inl ⟨hi, e⟩
      · have := (List.getElem?_eq_some_iff.mp e).1
        simp at this
        exact .inr (by omega)
    rcases cs i c1 e1 with ⟨hi, f1⟩ | hi <;> rcases cs j c2 e2 with ⟨hj, f2⟩ | hj
    · rw [nu_old hi, nu_old hj] at q
      exact r.inj i j c1 c2 f1 f2 l1 l2 q
    · subst hj
      rw [nu_old hi, nu_new] at q
      obtain ⟨u, e, _⟩ := live_at (r.cell i c1 f1) l1
      rw [q, hp] at e
      cases e
    · subst hi
      rw [nu_old hj, nu_new] at q
      obtain ⟨u, e, _⟩ := live_at (r.cell j c2 f2) l2
      rw [← q, hp] at e
      cases e
    · rw [hi, hj]
/-- a new object that is no cell (a tuple) -/
theorem HRel.fresh (r : HRel G μ h H) (hp : H p = none) : HRel G μ h (upd H p o) :=
  ⟨fun i d e => RCell.keep (r.cell i d e) (fun _ _ => rfl) (Nat.le_refl _) (TS0.fresh hp) fun b u _ z => by rw [upd_ne (ne_of_none z hp)]; exact z, r.inj⟩
theorem Gr.fresh (r : HRel G μ h H) (hp : H p = none) : Gr G μ h H μ h (upd H p o) := ⟨Nat.le_refl _, fun _ _ => rfl, TS0.fresh hp, r.fresh hp⟩

/-- a cell is changed -/
theorem Gr.write {i : Nat} (r : HRel G μ h H) (hi : h[i]? = some c) (hl : c.live = true) (hd : d.live = true) (hc : RCell G μ h.length (upd H (μ i) o) (μ i) d) : Gr G μ h H μ (h.set i d) (upd H (μ i) o) := by
  obtain ⟨u, e0, hu⟩ := live_at (r.cell i c hi) hl
  have hlt := (List.getElem?_eq_some_iff.mp hi).1
  refine ⟨by simp, fun _ _ => rfl, TS0.write e0 hu, ⟨fun j e q => ?_, fun j k c1 c2 e1 e2 l1 l2 q => ?_⟩⟩
  · by_cases hj : i = j
    · subst hj
      rw [List.getElem?_set_self hlt] at q
      cases q
      simpa using hc
    · rw [List.getElem?_set_ne hj] at q
      have ts := TS0.write (K := G.K) (o := o) e0 hu
      have ne : ∀ {b w}, H b = some w → Wr w = false → b ≠ μ i := fun {b w} z y q => by
        subst q
        rw [e0] at z
        cases z
        rw [hu] at y
        cases y
      have rc := r.cell j e q
      have hlen : (h.set i d).length = h.length := by simp
      rw [hlen]
      cases e with
      | lst ws =>
        obtain ⟨xs, s, rs⟩ := rc
        have hne : μ j ≠ μ i := fun z => hj (r.inj i j c _ hi q hl rfl z.symm)
        exact ⟨xs, by rw [upd_ne hne]; exact s, rs.same ts⟩
      | ins cn fs =>
        obtain ⟨dx, gs, s, rs⟩ := rc
        have hne : μ j ≠ μ i := fun z => hj (r.inj i j c _ hi q hl rfl z.symm)
        exact ⟨dx, gs, by rw [upd_ne hne]; exact s, RFs.mono (fun _ _ => rfl) (Nat.le_refl _) ts _ _ rs⟩
      | frz ws =>
        obtain ⟨xs, s, rs⟩ := rc
        refine ⟨xs, ?_, rs.same ts⟩
        rcases s with ⟨ob, s⟩ | s
        · exact .inl ⟨ob, by rw [upd_ne (ne s rfl)]; exact s⟩
        · exact .inr s
      | exc cn fs =>
        obtain ⟨cls, dd, s, q1, q2⟩ := rc
        refine ⟨cls, dd, by rw [upd_ne (ne s rfl)]; exact s, q1, ?_⟩
        rcases q2 with q2 | ⟨d1, gs, e1, e2, q2⟩
        · exact .inl q2
        · exact .inr ⟨d1, gs, e1, by rw [upd_ne (ne e2 rfl)]; exact e2, RFs.mono (fun _ _ => rfl) (Nat.le_refl _) ts _ _ q2⟩
  · have cs : ∀ (j : Nat) (c1 : Cell), (h.set i d)[j]? = some c1 → c1.live = true → ∃ c0, h[j]? = some c0 ∧ c0.live = true := fun j c1 e1 l1 => by
      by_cases hj : i = j
      · subst hj
        exact ⟨c, hi, hl⟩
      · rw [List.getElem?_set_ne hj] at e1
        exact ⟨c1, e1, l1⟩
    obtain ⟨a1, f1, g1⟩ := cs j c1 e1 l1
    obtain ⟨a2, f2, g2⟩ := cs k c2 e2 l2
    exact r.inj j k a1 a2 f1 f2 g1 g2 q
end
end ML

set_option maxHeartbeats 4000000
namespace ML
open PySem L2

/-! ### statements -/
inductive Sz where
  | nx (ρ : Ev) (h : Hm)
  | rt (w : U) (h : Hm)
  | bk (ρ : Ev) (h : Hm)
  | ct (ρ : Ev) (h : Hm)
  | ex (c : Nat) (fs : List (Str × U)) (ρ : Ev) (h : Hm)
abbrev MS := Ev → Hm → Option Sz
def bndS {α : Type} (ρ : Ev) (x : Option (Rz α)) (k : α → Hm → Option Sz) : Option Sz :=
  match x with
  | some (.ok a h) => k a h
  | some (.ex c fs h) => some (.ex c fs ρ h)
  | none => none
@[simp] theorem bndS_ok {α : Type} (ρ) (a : α) (h : Hm) (k : α → Hm → Option Sz) : bndS ρ (some (.ok a h)) k = k a h := rfl
@[simp] theorem bndS_ex {α : Type} (ρ c fs h) (k : α → Hm → Option Sz) : bndS ρ (some (.ex c fs h)) k = some (.ex c fs ρ h) := rfl
@[simp] theorem bndS_none {α : Type} (ρ) (k : α → Hm → Option Sz) : bndS ρ none k = none := rfl

def PostS (G : Gm) (Wx : WX) (D : Ends) (μ : Nat → Addr) (h : Hm) (H : Hp) (r : Option Sz) : Prop :=
  match r with
  | some (.nx ρ' h') => ∀ μ' σ' H', Gr G μ h H μ' h' H' → StOk G μ' ρ' h' σ' H' → D.nx σ' H'
  | some (.rt w h') => ∀ μ' H' v, Gr G μ h H μ' h' H' → RU G.K μ' h'.length H' w v → D.rt v H'
  | some (.bk ρ' h') => ∀ μ' σ' H', Gr G μ h H μ' h' H' → StOk G μ' ρ' h' σ' H' → D.bk σ' H'
  | some (.ct ρ' h') => ∀ μ' σ' H', Gr G μ h H μ' h' H' → StOk G μ' ρ' h' σ' H' → D.ct σ' H'
  | some (.ex c fs ρ' h') => ∀ μ' σ' H' cls d, Gr G μ h H μ' h' H' → StOk G μ' ρ' h' σ' H' → RX G.K μ' h'.length H' G.ca c fs cls d → Wx cls d σ' H'
  | none => False
def tS (G : Gm) (Wx : WX) (m : MS) : TS := fun D σ H => ∃ μ ρ h, StOk G μ ρ h σ H ∧ PostS G Wx D μ h H (m ρ h)

section
variable {α : Type} {G : Gm} {Wx : WX} {D : Ends} {μ μ' : Nat → Addr} {h h' : Hm} {H H' : Hp} {ρ : Ev} {σ : St}
theorem PostS.on {r : Option Sz} (p : PostS G Wx D μ h H r) (g : Gr G μ h H μ' h' H') : PostS G Wx D μ' h' H' r := by
  cases r with
  | none => exact p
  | some r =>
    cases r with
    | nx ρ1 h1 => exact fun μ1 σ1 H1 g1 s => p μ1 σ1 H1 (g.trans g1) s
    | rt w h1 => exact fun μ1 H1 v g1 s => p μ1 H1 v (g.trans g1) s
    | bk ρ1 h1 => exact fun μ1 σ1 H1 g1 s => p μ1 σ1 H1 (g.trans g1) s
    | ct ρ1 h1 => exact fun μ1 σ1 H1 g1 s => p μ1 σ1 H1 (g.trans g1) s
    | ex c fs ρ1 h1 => exact fun μ1 σ1 H1 cls d g1 s x => p μ1 σ1 H1 cls d (g.trans g1) s x
theorem PostS.bnd {x : Option (Rz α)} {k : α → Hm → Option Sz} (s : StOk G μ ρ h σ H) (p : PostS G Wx D μ h H (bndS ρ x k)) :
    Post G (fun μ1 h1 H1 a => PostS G Wx D μ1 h1 H1 (k a h1)) (fun cls d H' => Wx cls d σ H') μ h H x := by
  cases x with
  | none => exact p
  | some r =>
    cases r with
    | ok a h1 => exact fun μ1 H1 g1 => PostS.on (show PostS G Wx D μ h H (k a h1) from p) g1
    | ex c fs h1 => exact fun μ1 H1 cls d g1 rx => p μ1 σ H1 cls d g1 (s.on g1) rx

def mSkip : MS := fun ρ h => some (.nx ρ h)
def mSeq (a b : MS) : MS := fun ρ h => match a ρ h with
  | some (.nx ρ1 h1) => b ρ1 h1
  | r => r
def mRet (e : ME) : MS := fun ρ h => bndS ρ (e ρ h) fun w h1 => some (.rt w h1)
def mRetN : MS := fun _ h => some (.rt .non h)
def mDrop (e : ME) : MS := fun ρ h => bndS ρ (e ρ h) fun _ h1 => some (.nx ρ h1)
def mSet (i : Nat) (e : ME) : MS := fun ρ h => bndS ρ (e ρ h) fun w h1 => some (.nx (ρ.set i (some w)) h1)
def mIf (c : MT) (a b : MS) : MS := fun ρ h => bndS ρ (c ρ h) fun k h1 => if k = true then a ρ h1 else b ρ h1
def mBrk : MS := fun ρ h => some (.bk ρ h)
def mCont : MS := fun ρ h => some (.ct ρ h)

theorem StOk.refl_nx (s : StOk G μ ρ h σ H) (p : PostS G Wx D μ h H (some (.nx ρ h))) : D.nx σ H := p μ σ H (Gr.refl s.rel) s
theorem w_skip : ∀ D σ H, tS G Wx mSkip D σ H → tNext D σ H := fun D σ H ⟨μ, ρ, h, s, p⟩ => p μ σ H (Gr.refl s.rel) s
theorem PostS.seq {a b : MS} (p : PostS G Wx D μ h H (mSeq a b ρ h)) : PostS G Wx { D with nx := tS G Wx b D } μ h H (a ρ h) := by
  unfold mSeq at p
  cases e : a ρ h with
  | none => rw [e] at p; exact p
  | some r =>
    rw [e] at p
    cases r with
    | nx ρ1 h1 => exact fun μ1 σ1 H1 g1 s1 => ⟨μ1, ρ1, h1, s1, PostS.on p g1⟩
    | rt w h1 => exact p
    | bk ρ1 h1 => exact p
    | ct ρ1 h1 => exact p
    | ex c fs ρ1 h1 => exact p
theorem w_seq {a b : MS} : ∀ D σ H, tS G Wx (mSeq a b) D σ H → tSeq (tS G Wx a) (tS G Wx b) D σ H := fun D σ H ⟨μ, ρ, h, s, p⟩ => ⟨μ, ρ, h, s, p.seq⟩
theorem w_ret {e : ME} : ∀ D σ H, tS G Wx (mRet e) D σ H → tRet (tE G Wx e) D σ H := fun D σ H ⟨μ, ρ, h, s, p⟩ =>
  ⟨μ, ρ, h, s, (PostS.bnd s p).mono fun μ1 h1 H1 w g q v r => q μ1 H1 v (Gr.refl g.rel) r⟩
theorem w_retN : ∀ D σ H, tS G Wx mRetN D σ H → tRetN D σ H := fun D σ H ⟨μ, ρ, h, s, p⟩ => p μ H .non (Gr.refl s.rel) rfl
theorem w_drop {e : ME} : ∀ D σ H, tS G Wx (mDrop e) D σ H → tDrop (tE G Wx e) D σ H := fun D σ H ⟨μ, ρ, h, s, p⟩ =>
  ⟨μ, ρ, h, s, (PostS.bnd s p).mono fun μ1 h1 H1 w g q v r => q μ1 σ H1 (Gr.refl g.rel) (s.on g)⟩
theorem w_set {i : Nat} {e : ME} : ∀ D σ H, tS G Wx (mSet i e) D σ H → tAsg (tE G Wx e) (gName i) D σ H := fun D σ H ⟨μ, ρ, h, s, p⟩ =>
  ⟨μ, ρ, h, s, (PostS.bnd s p).mono fun μ1 h1 H1 w g q v r => q μ1 _ H1 (Gr.refl g.rel) ((s.on g).set i r)⟩
theorem w_if {c : MT} {a b : MS} : ∀ D σ H, tS G Wx (mIf c a b) D σ H → tIfS (tT G Wx c) (tS G Wx a) (tS G Wx b) D σ H := fun D σ H ⟨μ, ρ, h, s, p⟩ =>
  ⟨μ, ρ, h, s, (PostS.bnd s p).mono fun μ1 h1 H1 k g q => by
    cases k with
    | true => rw [if_pos rfl] at q ⊢; exact ⟨μ1, ρ, h1, s.on g, q⟩
    | false => rw [if_neg Bool.false_ne_true] at q ⊢; exact ⟨μ1, ρ, h1, s.on g, q⟩⟩
theorem w_brk : ∀ D σ H, tS G Wx mBrk D σ H → tBreak D σ H := fun D σ H ⟨μ, ρ, h, s, p⟩ => p μ σ H (Gr.refl s.rel) s
theorem w_cont : ∀ D σ H, tS G Wx mCont D σ H → tCont D σ H := fun D σ H ⟨μ, ρ, h, s, p⟩ => p μ σ H (Gr.refl s.rel) s

/-! ### targets -/
abbrev MG := U → Ev → Option Ev
def tG (G : Gm) (m : MG) : TG := fun v σ H Q => ∃ μ ρ h w ρ', StOk G μ ρ h σ H ∧ RU G.K μ h.length H w v ∧ m w ρ = some ρ' ∧ ∀ σ', StOk G μ ρ' h σ' H → Q σ' H
abbrev MGs := List U → Ev → Option Ev
def tGs (G : Gm) (m : MGs) : TGs := fun vs σ H Q => ∃ μ ρ h ws ρ', StOk G μ ρ h σ H ∧ RUs G.K μ h.length H ws vs ∧ m ws ρ = some ρ' ∧ ∀ σ', StOk G μ ρ' h σ' H → Q σ' H
theorem _root_.L2.PG.weak {X : Cx} {e : Expr} {t t' : TG} (h : PG X e t) (w : ∀ v σ H Q, t' v σ H Q → t v σ H Q) : PG X e t' := by
  obtain ⟨h⟩ := h
  exact ⟨fun pins s σ H v u Q I r q => h pins s σ H v u Q I r (w v σ H Q q)⟩
theorem _root_.L2.PGs.weak {X : Cx} {e : List Expr} {t t' : TGs} (h : PGs X e t) (w : ∀ v σ H Q, t' v σ H Q → t v σ H Q) : PGs X e t' := by
  obtain ⟨h⟩ := h
  exact ⟨fun pins s σ H v u Q I r q => h pins s σ H v u Q I r (w v σ H Q q)⟩
def gN (i : Nat) : MG := fun w ρ => some (ρ.set i (some w))
def gT (n : Nat) (g : MGs) : MG := fun w ρ => match w with
  | .tup ws => if ws.length = n then g ws ρ else none
  | _ => none
def gE : MGs := fun ws ρ => match ws with
  | [] => some ρ
  | _ => none
def gC (a : MG) (b : MGs) : MGs := fun ws ρ => match ws with
  | w :: r => match a w ρ with
    | some ρ1 => b r ρ1
    | none => none
  | [] => none
theorem w_gN {i : Nat} : ∀ v σ H Q, tG G (gN i) v σ H Q → gName i v σ H Q := fun v σ H Q ⟨μ, ρ, h, w, ρ', s, r, e, k⟩ => by
  cases e
  exact k _ (s.set i r)
theorem w_gE : ∀ v σ H Q, tGs G gE v σ H Q → gNil v σ H Q := fun v σ H Q ⟨μ, ρ, h, w, ρ', s, r, e, k⟩ => by
  cases w with
  | nil =>
    cases e
    simp only [RUs] at r
    exact ⟨r, k _ s⟩
  | cons a b => cases e
theorem w_gC {a : MG} {b : MGs} : ∀ v σ H Q, tGs G (gC a b) v σ H Q → gCons (tG G a) (tGs G b) v σ H Q := fun v σ H Q ⟨μ, ρ, h, w, ρ', s, r, e, k⟩ => by
  cases w with
  | nil => cases e
  | cons w ws =>
    simp only [RUs] at r
    obtain ⟨y, ys, rfl, r1, r2⟩ := r
    unfold gC at e
    simp only at e
    cases e1 : a w ρ with
    | none => rw [e1] at e; cases e
    | some ρ1 =>
      rw [e1] at e
      exact ⟨y, ys, rfl, μ, ρ, h, w, ρ1, s, r1, e1, fun σ1 s1 => ⟨μ, ρ1, h, ws, ρ', s1, r2, e, k⟩⟩
theorem w_gT {n : Nat} {g : MGs} : ∀ v σ H Q, tG G (gT n g) v σ H Q → gTup G.K n (tGs G g) v σ H Q := fun v σ H Q ⟨μ, ρ, h, w, ρ', s, r, e, k⟩ => by
  cases w with
  | tup ws =>
    unfold gT at e
    simp only at e
    split at e
    · rename_i hl
      simp only [RU] at r
      obtain ⟨a, xs, rfl, st, rs⟩ := r
      exact ⟨a, xs, rfl, st, (RUs.length rs).trans hl, μ, ρ, h, ws, ρ', s, rs, e, k⟩
    · cases e
  | _ => cases e
def mAsg (g : MG) (e : ME) : MS := fun ρ h => bndS ρ (e ρ h) fun w h1 => match g w ρ with
  | some ρ1 => some (.nx ρ1 h1)
  | none => none
theorem w_asg {g : MG} {e : ME} : ∀ D σ H, tS G Wx (mAsg g e) D σ H → tAsg (tE G Wx e) (tG G g) D σ H := fun D σ H ⟨μ, ρ, h, s, p⟩ =>
  ⟨μ, ρ, h, s, (PostS.bnd s p).mono fun μ1 h1 H1 w gr q v r => by
    cases e1 : g w ρ with
    | none => rw [e1] at q; exact False.elim q
    | some ρ1 =>
      rw [e1] at q
      exact ⟨μ1, ρ, h1, w, ρ1, s.on gr, r, e1, fun σ' s' => q μ1 σ' H1 (Gr.refl gr.rel) s'⟩⟩

/-! ### for -/
open Classical in
/-- over known items; chk is asked ahead of each turn and at the end -/
noncomputable def forC (chk : Hm → Prop) (g : MG) (body : MS) : List U → MS
  | [], ρ, h => if chk h then some (.nx ρ h) else none
  | w :: ws, ρ, h => if chk h then match g w ρ with
      | none => none
      | some ρ1 => match body ρ1 h with
        | some (.nx ρ2 h2) => forC chk g body ws ρ2 h2
        | some (.ct ρ2 h2) => forC chk g body ws ρ2 h2
        | some (.bk ρ2 h2) => some (.nx ρ2 h2)
        | r => r
    else none
theorem forC_nil {chk : Hm → Prop} {g : MG} {body : MS} {ρ : Ev} {h : Hm} (c : chk h) : forC chk g body [] ρ h = some (.nx ρ h) := by
  unfold forC
  rw [if_pos c]
theorem forC_cons {chk : Hm → Prop} {g : MG} {body : MS} {ρ ρ1 : Ev} {h : Hm} {w : U} {ws : List U} (c : chk h) (e : g w ρ = some ρ1) : forC chk g body (w :: ws) ρ h = (match body ρ1 h with
        | some (.nx ρ2 h2) => forC chk g body ws ρ2 h2
        | some (.ct ρ2 h2) => forC chk g body ws ρ2 h2
        | some (.bk ρ2 h2) => some (.nx ρ2 h2)
        | r => r) := by
  conv => lhs; unfold forC
  rw [if_pos c, e]

/-- what an iterator gives: the items, while chk stands -/
def Gives (G : Gm) (J : It) (items : List U) (chk : Hm → Prop) (μ1 : Nat → Addr) (h1 : Hm) (H1 : Hp) : Prop :=
  ∀ (i : Nat) μ h H, Gr G μ1 h1 H1 μ h H → chk h →
    (items.length ≤ i → J.stop i H) ∧ (∀ w, items[i]? = some w → J.go i H ∧ ∀ x H', J.yld i H x H' → Gr G μ h H μ h H' ∧ RU G.K μ h.length H' w x)
theorem for_ok {g : MG} {body : MS} {J : It} {items : List U} {chk : Hm → Prop} {μ1 : Nat → Addr} {h1 : Hm} {H1 : Hp} (gv : Gives G J items chk μ1 h1 H1) (s : StOk G μ1 ρ h1 σ H1) (p : PostS G Wx D μ1 h1 H1 (forC chk g body items ρ h1)) :
    ∃ W : Nat → Nat → St → Hp → Prop, (∃ m, W 0 m σ H1) ∧ ∀ i m σ H, W i m σ H →
      (J.stop i H ∧ D.nx σ H) ∨ (J.go i H ∧ ∃ N : St → Hp → Prop, (∀ σ' H', N σ' H' → ∃ m', m' < m ∧ W (i + 1) m' σ' H') ∧ ∀ x H', J.yld i H x H' → tG G g x σ H' fun σ2 H2 => tS G Wx body { D with nx := N, ct := N, bk := D.nx } σ2 H2) := by
  refine ⟨fun i m σ H => m = items.length - i ∧ i ≤ items.length ∧ ∃ μ ρ h, Gr G μ1 h1 H1 μ h H ∧ StOk G μ ρ h σ H ∧ PostS G Wx D μ h H (forC chk g body (items.drop i) ρ h),
    ⟨items.length, by simp, Nat.zero_le _, μ1, ρ, h1, Gr.refl s.rel, s, by simpa using p⟩, ?_⟩
  rintro i m σ H ⟨rfl, hi, μ, ρ, h, gr, s, p⟩
  by_cases hlt : i < items.length
  · have hd : items.drop i = items[i] :: items.drop (i + 1) := List.drop_eq_getElem_cons hlt
    rw [hd] at p
    unfold forC at p
    by_cases hc : chk h
    · rw [if_pos hc] at p
      obtain ⟨_, q⟩ := gv i μ h H gr hc
      obtain ⟨go, yl⟩ := q items[i] (by simp [hlt])
      cases e1 : g items[i] ρ with
      | none => rw [e1] at p; exact False.elim p
      | some ρ1 =>
        rw [e1] at p
        simp only at p
        refine .inr ⟨go, fun σ' H' => ∃ μ ρ h, Gr G μ1 h1 H1 μ h H' ∧ StOk G μ ρ h σ' H' ∧ PostS G Wx D μ h H' (forC chk g body (items.drop (i + 1)) ρ h), fun σ' H' z => ⟨items.length - (i + 1), by omega, rfl, by omega, z⟩, fun x H' y => ?_⟩
        obtain ⟨g2, r2⟩ := yl x H' y
        refine ⟨μ, ρ, h, items[i], ρ1, s.on g2, r2, e1, fun σ' s' => ⟨μ, ρ1, h, s', ?_⟩⟩
        have p := p.on g2
        cases e2 : body ρ1 h with
        | none => rw [e2] at p; exact p
        | some r =>
          rw [e2] at p
          cases r with
          | nx ρ2 h2 => exact fun μ3 σ3 H3 g3 s3 => ⟨μ3, ρ2, h2, (gr.trans g2).trans g3, s3, PostS.on p g3⟩
          | ct ρ2 h2 => exact fun μ3 σ3 H3 g3 s3 => ⟨μ3, ρ2, h2, (gr.trans g2).trans g3, s3, PostS.on p g3⟩
          | bk ρ2 h2 => exact p
          | rt w h2 => exact p
          | ex c fs ρ2 h2 => exact p
    · rw [if_neg hc] at p
      exact False.elim p
  · have e : i = items.length := by omega
    subst e
    rw [List.drop_length] at p
    unfold forC at p
    by_cases hc : chk h
    · rw [if_pos hc] at p
      exact .inl ⟨(gv _ μ h H gr hc).1 (Nat.le_refl _), p μ σ H (Gr.refl s.rel) s⟩
    · rw [if_neg hc] at p
      exact False.elim p

/-- what is walked: the items, what must stand -/
abbrev MI := Ev → Hm → Option (Rz (List U × (Hm → Prop)))
def tI (G : Gm) (Wx : WX) (m : MI) : TI := fun σ H R => ∃ μ ρ h, StOk G μ ρ h σ H ∧
  Post G (fun μ1 h1 H1 a => ∀ J, Gives G J a.1 a.2 μ1 h1 H1 → R J H1) (fun cls d H' => Wx cls d σ H') μ h H (m ρ h)
theorem _root_.L2.PI.weak {X : Cx} {tg e : Expr} {t t' : TI} (h : PI X tg e t) (w : ∀ σ H Q, t' σ H Q → t σ H Q) : PI X tg e t' := by
  obtain ⟨h⟩ := h
  exact ⟨fun pins s σ H R I q => h pins s σ H R I (w σ H R q)⟩
noncomputable def mFor (it : MI) (g : MG) (body : MS) : MS := fun ρ h => bndS ρ (it ρ h) fun a h1 => forC a.2 g body a.1 ρ h1
theorem w_for {it : MI} {g : MG} {body : MS} : ∀ D σ H, tS G Wx (mFor it g body) D σ H → tFor (tI G Wx it) (tG G g) (tS G Wx body) D σ H := fun D σ H ⟨μ, ρ, h, s, p⟩ =>
  ⟨μ, ρ, h, s, (PostS.bnd s p).mono fun μ1 h1 H1 a gr q J gv => for_ok gv (s.on gr) q⟩
def iL (e : ME) : MI := fun ρ h => bnd (e ρ h) fun w h1 => match w with
  | .ref i => match h1[i]? with
    | some (.lst ws) => some (.ok (ws, fun h => h[i]? = some (.lst ws)) h1)
    | some (.frz ws) => some (.ok (ws, fun h => h[i]? = some (.frz ws)) h1)
    | _ => none
  | _ => none
def iT (e : ME) : MI := fun ρ h => bnd (e ρ h) fun w h1 => match w with
  | .tup ws => some (.ok (ws, fun _ => True) h1)
  | _ => none
theorem rz_sqL {i : Nat} {ws : List U} (r : HRel G μ h H) (e : h[i]? = some (.lst ws) ∨ h[i]? = some (.frz ws)) : ∃ xs, SqL G.K H (μ i) xs ∧ RUs G.K μ h.length H ws xs := by
  rcases e with e | e
  · obtain ⟨xs, s, rs⟩ := r.cell _ _ e
    exact ⟨xs, SqL.of s, rs⟩
  · obtain ⟨xs, s, rs⟩ := r.cell _ _ e
    exact ⟨xs, s.sql, rs⟩
theorem sq_uniq {K : PySem.W.Frag} {a : Addr} {xs ys : List V} (h1 : SqT K H a xs) (h2 : SqT K H a ys) (n : H a ≠ none ∨ True) : True := trivial
theorem gives_list {i : Nat} {ws : List U} {c : Cell} (hc : c = .lst ws ∨ c = .frz ws) (hi : i < h.length) : Gives G (Itl G.K (μ i)) ws (fun h => h[i]? = some c) μ h H := by
  intro j μ2 h2 H2 gr ck
  have em : μ2 i = μ i := gr.mu i hi
  have e2 : h2[i]? = some (.lst ws) ∨ h2[i]? = some (.frz ws) := by
    rcases hc with rfl | rfl
    · exact .inl ck
    · exact .inr ck
  obtain ⟨xs, sq, rs⟩ := rz_sqL gr.rel e2
  rw [em] at sq
  refine ⟨fun hj => ⟨xs, sq, by rw [RUs.length rs]; exact hj⟩, fun w hw => ?_⟩
  obtain ⟨v, ev, rv⟩ := RUs.get rs hw
  refine ⟨⟨xs, v, sq, ev⟩, fun x H' y => ?_⟩
  obtain ⟨eH, y⟩ := y
  subst eH
  have := y xs sq
  rw [ev] at this
  cases this
  exact ⟨Gr.refl gr.rel, rv⟩
theorem gives_tup {a : Addr} {xs : List V} {ws : List U} (st : SqT G.K H a xs) (rs : RUs G.K μ h.length H ws xs) : Gives G (Itt G.K a) ws (fun _ => True) μ h H := by
  intro j μ2 h2 H2 gr ck
  have sq := gr.tup a xs st
  have rs := gr.rus rs
  refine ⟨fun hj => ⟨xs, sq, by rw [RUs.length rs]; exact hj⟩, fun w hw => ?_⟩
  obtain ⟨v, ev, rv⟩ := RUs.get rs hw
  refine ⟨⟨xs, v, sq, ev⟩, fun x H' y => ?_⟩
  obtain ⟨eH, y⟩ := y
  subst eH
  have := y xs sq
  rw [ev] at this
  cases this
  exact ⟨Gr.refl gr.rel, rv⟩
theorem w_iL {e : ME} : ∀ σ H R, tI G Wx (iL e) σ H R → iList G.K (tE G Wx e) σ H R := fun σ H R ⟨μ, ρ, h, s, p⟩ =>
  ⟨μ, ρ, h, s, (Post.bnd p).mono fun μ1 h1 H1 w g q v r => by
    cases w with
    | ref i =>
      simp only at q
      simp only [RU] at r
      obtain ⟨hi, rfl⟩ := r
      cases ec : h1[i]? with
      | none => rw [ec] at q; exact False.elim q
      | some c =>
        rw [ec] at q
        cases c with
        | lst ws =>
          obtain ⟨xs, sq, rs⟩ := rz_sqL g.rel (.inl ec)
          exact ⟨μ1 i, rfl, ⟨xs, sq⟩, q μ1 H1 (Gr.refl g.rel) _ (gives_list (.inl rfl) hi)⟩
        | frz ws =>
          obtain ⟨xs, sq, rs⟩ := rz_sqL g.rel (.inr ec)
          exact ⟨μ1 i, rfl, ⟨xs, sq⟩, q μ1 H1 (Gr.refl g.rel) _ (gives_list (.inr rfl) hi)⟩
        | ins _ _ => exact False.elim q
        | exc _ _ => exact False.elim q
    | _ => exact False.elim q⟩
theorem w_iT {e : ME} : ∀ σ H R, tI G Wx (iT e) σ H R → iTup G.K (tE G Wx e) σ H R := fun σ H R ⟨μ, ρ, h, s, p⟩ =>
  ⟨μ, ρ, h, s, (Post.bnd p).mono fun μ1 h1 H1 w g q v r => by
    cases w with
    | tup ws =>
      simp only at q
      simp only [RU] at r
      obtain ⟨a, xs, rfl, st, rs⟩ := r
      exact ⟨a, rfl, ⟨xs, st⟩, q μ1 H1 (Gr.refl g.rel) _ (gives_tup st rs)⟩
    | _ => exact False.elim q⟩
end
end ML

set_option maxHeartbeats 4000000
namespace ML
open PySem L2
section
variable {G : Gm} {Wx : WX} {μ μ' : Nat → Addr} {h h' : Hm} {H H' : Hp} {ρ : Ev} {σ : St}

/-! ### names, constants -/
def mVar (i : Nat) : ME := fun ρ h => match ρ[i]? with
  | some (some w) => some (.ok w h)
  | _ => none
def mC (w : U) : ME := fun _ h => some (.ok w h)
theorem w_var {i : Nat} : ∀ σ H Q, tE G Wx (mVar i) σ H Q → tVar i σ H Q := fun σ H Q ⟨μ, ρ, h, s, p⟩ => by
  unfold mVar at p
  cases e : ρ[i]? with
  | none => rw [e] at p; exact False.elim p
  | some o =>
    rw [e] at p
    cases o with
    | none => exact False.elim p
    | some w =>
      obtain ⟨v, ev, r⟩ := s.slot i w e
      exact ⟨v, ev, Post.ok s.rel p v r⟩
theorem w_non : ∀ σ H Q, tE G Wx (mC .non) σ H Q → tC .non σ H Q := fun σ H Q ⟨μ, ρ, h, s, p⟩ => Post.ok s.rel p _ rfl
theorem w_int {i : Int} : ∀ σ H Q, tE G Wx (mC (.int i)) σ H Q → tC (.int i) σ H Q := fun σ H Q ⟨μ, ρ, h, s, p⟩ => Post.ok s.rel p _ rfl
theorem w_bl {i : Bool} : ∀ σ H Q, tE G Wx (mC (.bl i)) σ H Q → tC (.bl i) σ H Q := fun σ H Q ⟨μ, ρ, h, s, p⟩ => Post.ok s.rel p _ rfl
theorem w_str {i : Str} : ∀ σ H Q, tE G Wx (mC (.str i)) σ H Q → tC (.str i) σ H Q := fun σ H Q ⟨μ, ρ, h, s, p⟩ => Post.ok s.rel p _ rfl

/-! ### operations of values -/
abbrev O2 := U → U → Hm → Option (Rz U)
def PV (G : Gm) (Q : VK) : (Nat → Addr) → Hm → Hp → U → Prop := fun μ' h' H' w => ∀ v, RU G.K μ' h'.length H' w v → Q v H'
def OpC (G : Gm) (f : O2) (r : R2) : Prop := ∀ (E : XK) μ h H wx wy x y Q, HRel G μ h H → RU G.K μ h.length H wx x → RU G.K μ h.length H wy y → Post G (PV G Q) E μ h H (f wx wy h) → r x y H Q
def mOp (f : O2) (a b : ME) : ME := fun ρ h => bnd (a ρ h) fun x h1 => bnd (b ρ h1) fun y h2 => f x y h2
theorem w_op {f : O2} {r : R2} {a b : ME} (c : OpC G f r) : ∀ σ H Q, tE G Wx (mOp f a b) σ H Q → tOp r (tE G Wx a) (tE G Wx b) σ H Q := fun σ H Q ⟨μ, ρ, h, s, p⟩ =>
  ⟨μ, ρ, h, s, (Post.bnd p).mono fun μ1 h1 H1 wx g1 q1 x rx => ⟨μ1, ρ, h1, s.on g1, (Post.bnd q1).mono fun μ2 h2 H2 wy g2 q2 y ry => c _ μ2 h2 H2 wx wy x y Q g2.rel (g2.ru rx) ry q2⟩⟩
theorem OpC.or {f g : O2} {r r' : R2} (c : OpC G f r) (d : OpC G g r') : OpC G (fun x y h => match f x y h with | some z => some z | none => g x y h) (fun x y H Q => r x y H Q ∨ r' x y H Q) := fun E μ h H wx wy x y Q rel rx ry p => by
  cases e : f wx wy h with
  | none => simp only [e] at p; exact .inr (d E μ h H wx wy x y Q rel rx ry p)
  | some z => simp only [e] at p; exact .inl (c E μ h H wx wy x y Q rel rx ry (by rw [e]; exact p))

/-- two whole numbers -/
def oI (C : Int → Int → Bool) (g : Int → Int → U) : O2 := fun x y h => match x, y with
  | .int i, .int j => if C i j = true then some (.ok (g i j) h) else none
  | _, _ => none
theorem oI_ok {C : Int → Int → Bool} {g : Int → Int → U} {D : Int → Int → Prop} {g' : Int → Int → V} (hd : ∀ i j, C i j = true → D i j) (hg : ∀ i j K μ n H, RU K μ n H (g i j) (g' i j)) : OpC G (oI C g) (rI D g') := fun E μ h H wx wy x y Q rel rx ry p => by
  cases wx with
  | int i =>
    cases wy with
    | int j =>
      simp only [RU] at rx ry
      subst rx ry
      unfold oI at p
      simp only at p
      split at p
      · rename_i hc
        exact ⟨i, j, rfl, rfl, hd i j hc, Post.ok rel p _ (hg i j _ _ _ _)⟩
      · exact False.elim p
    | _ => exact False.elim p
  | _ => exact False.elim p
def oI0 (g : Int → Int → U) : O2 := fun x y h => match x, y with
  | .int i, .int j => some (.ok (g i j) h)
  | _, _ => none
theorem oI0_ok {g : Int → Int → U} {g' : Int → Int → V} (hg : ∀ i j K μ n H, RU K μ n H (g i j) (g' i j)) : OpC G (oI0 g) (rI0 g') := fun E μ h H wx wy x y Q rel rx ry p => by
  cases wx with
  | int i =>
    cases wy with
    | int j =>
      simp only [RU] at rx ry
      subst rx ry
      exact ⟨i, j, rfl, rfl, Post.ok rel p _ (hg i j _ _ _ _)⟩
    | _ => exact False.elim p
  | _ => exact False.elim p
abbrev oAddI : O2 := oI0 fun i j => .int (i + j)
abbrev oSub : O2 := oI0 fun i j => .int (i - j)
def cMul (i j : Int) : Bool := (decide (-(2 ^ 64) < i) && decide (i < 2 ^ 64)) || (decide (-(2 ^ 64) < j) && decide (j < 2 ^ 64))
def cDivN (i j : Int) : Bool := decide (j ≠ 0) && decide (j.natAbs < 1073741824)
def cPow (i j : Int) : Bool := decide (0 ≤ j) && (decide (j ≤ 1000000) && decide (i.natAbs < 2 ^ 64))
abbrev oMul : O2 := oI cMul fun i j => .int (i * j)
abbrev oDiv : O2 := oI cDivN fun i j => .int (i.fdiv j)
abbrev oMod : O2 := oI (fun _ j => decide (j ≠ 0)) fun i j => .int (i.fmod j)
abbrev oPow : O2 := oI cPow fun i j => .int (i ^ j.toNat)
theorem oAddI_ok : OpC G oAddI (rI0 fun i j => .int (i + j)) := oI0_ok fun _ _ _ _ _ _ => rfl
theorem oSub_ok : OpC G oSub (rI0 fun i j => .int (i - j)) := oI0_ok fun _ _ _ _ _ _ => rfl
theorem oMul_ok : OpC G oMul (rI CMul fun i j => .int (i * j)) := oI_ok (fun i j hc => by
  unfold cMul at hc
  simp only [Bool.or_eq_true, Bool.and_eq_true, decide_eq_true_eq] at hc
  exact hc) fun _ _ _ _ _ _ => rfl
theorem oDiv_ok : OpC G oDiv (rI CDivN fun i j => .int (i.fdiv j)) := oI_ok (fun i j hc => by
  unfold cDivN at hc
  simp only [Bool.and_eq_true, decide_eq_true_eq] at hc
  exact hc) fun _ _ _ _ _ _ => rfl
theorem oMod_ok : OpC G oMod (rI (fun _ j => j ≠ 0) fun i j => .int (i.fmod j)) := oI_ok (fun i j hc => of_decide_eq_true hc) fun _ _ _ _ _ _ => rfl
theorem oPow_ok : OpC G oPow (rI CPow fun i j => .int (i ^ j.toNat)) := oI_ok (fun i j hc => by
  unfold cPow at hc
  simp only [Bool.and_eq_true, decide_eq_true_eq] at hc
  exact hc) fun _ _ _ _ _ _ => rfl
abbrev oLt : O2 := oI0 fun i j => .bl (decide (i < j))
abbrev oLe : O2 := oI0 fun i j => .bl (decide (i ≤ j))
abbrev oGt : O2 := oI0 fun i j => .bl (decide (j < i))
abbrev oGe : O2 := oI0 fun i j => .bl (decide (j ≤ i))
theorem oLt_ok : OpC G oLt (rI0 fun i j => .bl (decide (i < j))) := oI0_ok fun _ _ _ _ _ _ => rfl
theorem oLe_ok : OpC G oLe (rI0 fun i j => .bl (decide (i ≤ j))) := oI0_ok fun _ _ _ _ _ _ => rfl
theorem oGt_ok : OpC G oGt (rI0 fun i j => .bl (decide (j < i))) := oI0_ok fun _ _ _ _ _ _ => rfl
theorem oGe_ok : OpC G oGe (rI0 fun i j => .bl (decide (j ≤ i))) := oI0_ok fun _ _ _ _ _ _ => rfl

def LIM : Nat := 1000000
theorem lim_le {n : Nat} (h : n ≤ LIM) : n ≤ sizeLine := Nat.le_trans h (by show 1000000 ≤ sizeLine; decide)
/-- texts -/
def oAddS : O2 := fun x y h => match x, y with
  | .str i, .str j => if i.length + j.length ≤ LIM then some (.ok (.str (i ++ j)) h) else none
  | _, _ => none
theorem oAddS_ok : OpC G oAddS (fun x y H Q => ∃ i j, x = .str i ∧ y = .str j ∧ i.length + j.length ≤ sizeLine ∧ Q (.str (i ++ j)) H) := fun E μ h H wx wy x y Q rel rx ry p => by
  cases wx with
  | str i =>
    cases wy with
    | str j =>
      simp only [RU] at rx ry
      subst rx ry
      unfold oAddS at p
      simp only at p
      split at p
      · rename_i hc
        exact ⟨i, j, rfl, rfl, lim_le hc, Post.ok rel p _ rfl⟩
      · exact False.elim p
    | _ => exact False.elim p
  | _ => exact False.elim p
/-- lists -/
def oAddL : O2 := fun x y h => match x, y with
  | .ref l, .ref b => match h[l]?, h[b]? with
    | some (.lst xs), some (.lst ys) => if xs.length + ys.length ≤ LIM then some (.ok (.ref h.length) (h ++ [.lst (xs ++ ys)])) else none
    | _, _ => none
  | _, _ => none
theorem oAddL_ok : OpC G oAddL rCat := fun E μ h H wx wy x y Q rel rx ry p => by
  cases wx with
  | ref l =>
    cases wy with
    | ref b =>
      simp only [RU] at rx ry
      obtain ⟨hl, rfl⟩ := rx
      obtain ⟨hb, rfl⟩ := ry
      unfold oAddL at p
      simp only at p
      split at p
      · rename_i xs ys e1 e2
        split at p
        · rename_i hc
          obtain ⟨vs, s1, r1⟩ := rel.cell l _ e1
          obtain ⟨us, s2, r2⟩ := rel.cell b _ e2
          refine ⟨μ l, μ b, vs, us, rfl, rfl, s1, s2, by rw [RUs.length r1, RUs.length r2]; exact lim_le hc, fun q hq => ?_⟩
          have rr : RUs G.K (nu μ h.length q) (h.length + 1) (upd H q (.lst (vs ++ us))) (xs ++ ys) (vs ++ us) := RUs.mono (fun i hi => nu_old hi) (Nat.le_succ _) (TS0.fresh hq) _ _ (r1.append r2)
          have g := Gr.new (o := .lst (vs ++ us)) (c := .lst (xs ++ ys)) rel hq ⟨_, upd_same, rr⟩
          exact p _ _ g _ (by simp only [RU]; exact ⟨by simp, by rw [nu_new]⟩)
        · exact False.elim p
      · exact False.elim p
    | _ => exact False.elim p
  | _ => exact False.elim p
/-- list * int -/
def oRep : O2 := fun x y h => match x, y with
  | .ref l, .int k => match h[l]? with
    | some (.lst xs) => if (decide (k ≤ 1000000) && decide (-1000000 ≤ k)) && decide (xs.length * k.toNat ≤ LIM) = true then some (.ok (.ref h.length) (h ++ [.lst (List.replicate k.toNat xs).flatten])) else none
    | _ => none
  | _, _ => none
theorem RUs.rep {K : PySem.W.Frag} {n : Nat} {ws : List U} {xs : List V} (r : RUs K μ n H ws xs) : ∀ k : Nat, RUs K μ n H (List.replicate k ws).flatten (List.replicate k xs).flatten
  | 0 => by simp [RUs]
  | k + 1 => by
    simp only [List.replicate_succ, List.flatten_cons]
    exact r.append (RUs.rep r k)
theorem oRep_ok : OpC G oRep rRep := fun E μ h H wx wy x y Q rel rx ry p => by
  cases wx with
  | ref l =>
    cases wy with
    | int k =>
      simp only [RU] at rx ry
      obtain ⟨hl, rfl⟩ := rx
      subst ry
      unfold oRep at p
      simp only at p
      split at p
      · rename_i xs e1
        split at p
        · rename_i hc
          simp only [Bool.and_eq_true, decide_eq_true_eq] at hc
          obtain ⟨vs, s1, r1⟩ := rel.cell l _ e1
          refine ⟨μ l, k, vs, rfl, rfl, s1, by omega, by omega, by rw [RUs.length r1]; exact lim_le hc.2, fun q hq => ?_⟩
          have rr := RUs.mono (μ' := nu μ h.length q) (n' := h.length + 1) (H' := upd H q (.lst (List.replicate k.toNat vs).flatten)) (fun i hi => nu_old hi) (Nat.le_succ _) (TS0.fresh hq) _ _ (r1.rep k.toNat)
          have g := Gr.new (o := .lst (List.replicate k.toNat vs).flatten) (c := .lst (List.replicate k.toNat xs).flatten) rel hq ⟨_, upd_same, rr⟩
          exact p _ _ g _ (by simp only [RU]; exact ⟨by simp, by rw [nu_new]⟩)
        · exact False.elim p
      · exact False.elim p
    | _ => exact False.elim p
  | _ => exact False.elim p
/-- tuples -/
def oAddT : O2 := fun x y h => match x, y with
  | .tup xs, .tup ys => if (decide (xs.length ≠ 0) && decide (xs.length + ys.length ≤ LIM)) = true then some (.ok (.tup (xs ++ ys)) h) else none
  | _, _ => none
end
end ML

set_option maxHeartbeats 4000000
namespace ML
open PySem L2
section
variable {G : Gm} {Wx : WX} {μ μ' : Nat → Addr} {h h' : Hm} {H H' : Hp} {ρ : Ev} {σ : St}

/-! ### == of scalars -/
def sEq : U → U → Option Bool
  | .non, .non => some true
  | .non, .int _ => some false | .int _, .non => some false
  | .non, .bl _ => some false | .bl _, .non => some false
  | .non, .str _ => some false | .str _, .non => some false
  | .int a, .int b => some (decide (a = b))
  | .bl a, .bl b => some (decide (a = b))
  | .str a, .str b => some (decide (a = b))
  | .int _, .str _ => some false | .str _, .int _ => some false
  | .bl _, .str _ => some false | .str _, .bl _ => some false
  | _, _ => none
theorem sEq_ok {K : PySem.W.Frag} {n : Nat} {x y : U} {v u : V} {b : Bool} (e : sEq x y = some b) (rx : RU K μ n H x v) (ry : RU K μ n H y u) : scal v u = true ∧ decide (v = u) = b := by
  cases x <;> cases y <;> first | (cases e; done) | skip
  all_goals
    simp only [RU] at rx ry
    subst rx ry
    simp only [sEq, Option.some.injEq] at e
    subst e
    refine ⟨rfl, ?_⟩
    first
      | rfl
      | (simp; done)
def oEqS (neg : Bool) : O2 := fun x y h => match sEq x y with
  | some b => some (.ok (.bl (b != neg)) h)
  | none => none
theorem oEqS_ok : OpC G (oEqS false) rEq := fun E μ h H wx wy x y Q rel rx ry p => by
  unfold oEqS at p
  cases e : sEq wx wy with
  | none => rw [e] at p; exact False.elim p
  | some b =>
    rw [e] at p
    obtain ⟨h1, h2⟩ := sEq_ok e rx ry
    refine ⟨h1, Post.ok rel p _ ?_⟩
    rw [h2]
    cases b <;> rfl
theorem oNeS_ok : OpC G (oEqS true) rNe := fun E μ h H wx wy x y Q rel rx ry p => by
  unfold oEqS at p
  cases e : sEq wx wy with
  | none => rw [e] at p; exact False.elim p
  | some b =>
    rw [e] at p
    obtain ⟨h1, h2⟩ := sEq_ok e rx ry
    refine ⟨h1, Post.ok rel p _ ?_⟩
    rw [h2]
    cases b <;> rfl

/-! ### == of data -/
mutual
def dW (f : Nat → Option PyData) : U → Option PyData
  | .non => some .none
  | .bl b => some (.bool b)
  | .int i => some (.int i)
  | .str x => some (.str x)
  | .ref i => f i
  | .tup ws => match dWs f ws with
    | some ds => some (.tuple ds)
    | none => none
def dWs (f : Nat → Option PyData) : List U → Option (List PyData)
  | [] => some []
  | w :: ws => match dW f w, dWs f ws with
    | some d, some ds => some (d :: ds)
    | _, _ => none
end
def rd (h : Hm) (i : Nat) : Option (List U) := match h[i]? with
  | some (.lst ws) => some ws
  | some (.frz ws) => some ws
  | _ => none
theorem rd_ok {i : Nat} {ws : List U} (r : HRel G μ h H) (e : rd h i = some ws) : ∃ xs, SqL G.K H (μ i) xs ∧ RUs G.K μ h.length H ws xs := by
  unfold rd at e
  split at e
  · rename_i ws' ec; cases e; exact rz_sqL r (.inl ec)
  · rename_i ws' ec; cases e; exact rz_sqL r (.inr ec)
  · cases e
/-- data at a list: n levels of lists -/
def dR : Nat → Hm → Nat → Option PyData
  | 0, _, _ => none
  | n + 1, h, i => match rd h i with
    | some ws => match dWs (dR n h) ws with
      | some ds => some (.list ds)
      | none => none
    | none => none
def DF (G : Gm) (μ : Nat → Addr) (H : Hp) (f : Nat → Option PyData) : Prop := ∀ i d, f i = some d → Dp G.K H (.ref (μ i)) d
mutual
theorem dW_ok {f : Nat → Option PyData} (hf : DF G μ H f) : ∀ (w : U) (v : V) (d : PyData), dW f w = some d → RU G.K μ h.length H w v → Dp G.K H v d
  | .non, v, d, e, r => by simp only [dW] at e; simp only [RU] at r; cases e; subst r; exact .non
  | .bl b, v, d, e, r => by simp only [dW] at e; simp only [RU] at r; cases e; subst r; exact .bl b
  | .int i, v, d, e, r => by simp only [dW] at e; simp only [RU] at r; cases e; subst r; exact .int i
  | .str x, v, d, e, r => by simp only [dW] at e; simp only [RU] at r; cases e; subst r; exact .str x
  | .ref i, v, d, e, r => by
    simp only [dW] at e
    simp only [RU] at r
    obtain ⟨_, rfl⟩ := r
    exact hf i d e
  | .tup ws, v, d, e, r => by
    simp only [dW] at e
    simp only [RU] at r
    obtain ⟨a, xs, rfl, st, rs⟩ := r
    cases e2 : dWs f ws with
    | none => rw [e2] at e; cases e
    | some ds => rw [e2] at e; cases e; exact .tup st (dWs_ok hf ws xs ds e2 rs)
theorem dWs_ok {f : Nat → Option PyData} (hf : DF G μ H f) : ∀ (ws : List U) (vs : List V) (ds : List PyData), dWs f ws = some ds → RUs G.K μ h.length H ws vs → DpAll G.K H vs ds
  | [], vs, ds, e, r => by simp only [dWs] at e; simp only [RUs] at r; cases e; subst r; exact .nil
  | w :: ws, vs, ds, e, r => by
    simp only [dWs] at e
    simp only [RUs] at r
    obtain ⟨y, ys, rfl, r1, rs⟩ := r
    cases e1 : dW f w with
    | none => rw [e1] at e; cases e
    | some d =>
      cases e2 : dWs f ws with
      | none => rw [e1, e2] at e; cases e
      | some ds2 =>
        rw [e1, e2] at e
        cases e
        exact .cons (dW_ok hf w y d e1 r1) (dWs_ok hf ws ys ds2 e2 rs)
end
theorem dR_ok (rel : HRel G μ h H) : ∀ n, DF G μ H (dR n h)
  | 0, i, d, e => by cases e
  | n + 1, i, d, e => by
    unfold dR at e
    cases e1 : rd h i with
    | none => rw [e1] at e; cases e
    | some ws =>
      rw [e1] at e
      simp only at e
      cases e2 : dWs (dR n h) ws with
      | none => rw [e2] at e; cases e
      | some ds =>
        rw [e2] at e
        cases e
        obtain ⟨xs, sq, rs⟩ := rd_ok rel e1
        exact .lst sq (dWs_ok (h := h) (dR_ok rel n) ws xs ds e2 rs)
/-- n levels of lists -/
def oEqD (neg : Bool) (n : Nat) : O2 := fun x y h => match dW (dR n h) x, dW (dR n h) y with
  | some d, some e => if (SeqAt.shaped d && SeqAt.shaped e) = true then some (.ok (.bl (PyData.eqv d e != neg)) h) else none
  | _, _ => none
theorem oEqD_ok {n : Nat} : OpC G (oEqD false n) (rEqD G.K) := fun E μ h H wx wy x y Q rel rx ry p => by
  unfold oEqD at p
  split at p
  · rename_i d e e1 e2
    split at p
    · rename_i hc
      simp only [Bool.and_eq_true] at hc
      refine ⟨d, e, dW_ok (dR_ok rel n) _ _ _ e1 rx, dW_ok (dR_ok rel n) _ _ _ e2 ry, hc.1, hc.2, Post.ok rel p _ ?_⟩
      simp [RU]
    · exact False.elim p
  · exact False.elim p
theorem oNeD_ok {n : Nat} : OpC G (oEqD true n) (rNeD G.K) := fun E μ h H wx wy x y Q rel rx ry p => by
  unfold oEqD at p
  split at p
  · rename_i d e e1 e2
    split at p
    · rename_i hc
      simp only [Bool.and_eq_true] at hc
      refine ⟨d, e, dW_ok (dR_ok rel n) _ _ _ e1 rx, dW_ok (dR_ok rel n) _ _ _ e2 ry, hc.1, hc.2, Post.ok rel p _ ?_⟩
      simp [RU]
    · exact False.elim p
  · exact False.elim p

/-! ### is None -/
def isNon : U → Bool
  | .non => true
  | _ => false
theorem isNon_ok {K : PySem.W.Frag} {n : Nat} {x : U} {v : V} (r : RU K μ n H x v) : decide (v = .non) = isNon x := by
  cases x <;> simp only [RU] at r
  case ref i => obtain ⟨_, rfl⟩ := r; simp [isNon]
  case tup ws => obtain ⟨a, xs, rfl, _⟩ := r; simp [isNon]
  all_goals (subst r; simp [isNon])
def mIsN (neg : Bool) (a : ME) : ME := fun ρ h => bnd (a ρ h) fun x h1 => some (.ok (.bl (isNon x != neg)) h1)
theorem w_isN {a : ME} : ∀ σ H Q, tE G Wx (mIsN false a) σ H Q → tIsN (tE G Wx a) σ H Q := fun σ H Q ⟨μ, ρ, h, s, p⟩ =>
  ⟨μ, ρ, h, s, (Post.bnd p).mono fun μ1 h1 H1 wx g q x rx => Post.ok g.rel q _ (by rw [isNon_ok rx]; simp [RU])⟩
theorem w_notN {a : ME} : ∀ σ H Q, tE G Wx (mIsN true a) σ H Q → tNotN (tE G Wx a) σ H Q := fun σ H Q ⟨μ, ρ, h, s, p⟩ =>
  ⟨μ, ρ, h, s, (Post.bnd p).mono fun μ1 h1 H1 wx g q x rx => Post.ok g.rel q _ (by rw [isNon_ok rx]; simp [RU])⟩

/-! ### in -/
/-- one sign in a text -/
def oInC (neg : Bool) : O2 := fun x y h => match x, y with
  | .str a, .str z => match a.cps.toList with
    | [c] => some (.ok (.bl (decide (c ∈ z.cps.toList) != neg)) h)
    | _ => none
  | _, _ => none
theorem str_one {a : Str} {c : Nat} (e : a.cps.toList = [c]) : a = ⟨#[c]⟩ := by
  cases a with
  | mk cps =>
    simp only at e
    congr
    have : cps = [c].toArray := by rw [← e]
    rw [this]
theorem oInC_ok : OpC G (oInC false) (fun x y H Q => ∃ (c : Nat) (z : Str), x = .str ⟨#[c]⟩ ∧ y = .str z ∧ Q (.bl (decide (c ∈ z.cps.toList))) H) := fun E μ h H wx wy x y Q rel rx ry p => by
  cases wx with
  | str a =>
    cases wy with
    | str z =>
      simp only [RU] at rx ry
      subst rx ry
      unfold oInC at p
      simp only at p
      split at p
      · rename_i c e
        refine ⟨c, z, by rw [str_one e], rfl, Post.ok rel p _ (by simp [RU])⟩
      · exact False.elim p
    | _ => exact False.elim p
  | _ => exact False.elim p
def flatU : U → Bool
  | .non => true | .bl _ => true | .int _ => true | .str _ => true
  | _ => false
def eqF : U → U → Bool
  | .non, .non => true
  | .bl a, .bl b => a == b
  | .bl a, .int b => (if a then 1 else 0) == b
  | .int a, .bl b => a == (if b then 1 else 0)
  | .int a, .int b => a == b
  | .str a, .str b => a == b
  | _, _ => false
theorem flatU_ok {K : PySem.W.Frag} {n : Nat} {x : U} {v : V} (f : flatU x = true) (r : RU K μ n H x v) : flatV v = true := by
  cases x <;> simp only [RU] at r <;> first | (subst r; rfl) | cases f
theorem flats_ok {K : PySem.W.Frag} {n : Nat} : ∀ {ws : List U} {vs : List V}, ws.all flatU = true → RUs K μ n H ws vs → vs.all flatV = true
  | [], vs, f, r => by simp only [RUs] at r; subst r; rfl
  | w :: ws, vs, f, r => by
    simp only [RUs] at r
    obtain ⟨y, ys, rfl, r1, rs⟩ := r
    simp only [List.all_cons, Bool.and_eq_true] at f ⊢
    exact ⟨flatU_ok f.1 r1, flats_ok f.2 rs⟩
theorem eqF_ok {K : PySem.W.Frag} {n : Nat} {x y : U} {v u : V} (f : flatU x = true) (g : flatU y = true) (r : RU K μ n H x v) (q : RU K μ n H y u) : eqV v u = eqF x y := by
  cases x <;> first | cases f | skip
  all_goals (cases y <;> first | cases g | skip)
  all_goals (simp only [RU] at r q; subst r q; rfl)
def inF (x : U) (ws : List U) : Bool := ws.any fun y => eqF y x
theorem inF_ok {K : PySem.W.Frag} {n : Nat} {x : U} {v : V} (f : flatU x = true) (r : RU K μ n H x v) : ∀ {ws : List U} {vs : List V}, ws.all flatU = true → RUs K μ n H ws vs → inV v vs = inF x ws
  | [], vs, g, q => by simp only [RUs] at q; subst q; rfl
  | w :: ws, vs, g, q => by
    simp only [RUs] at q
    obtain ⟨y, ys, rfl, r1, rs⟩ := q
    simp only [List.all_cons, Bool.and_eq_true] at g
    have ih := inF_ok f r g.2 rs
    unfold inV inF at *
    simp only [List.any_cons, ih, eqF_ok g.1 f r1 r]
def oIn (neg : Bool) : O2 := fun x y h => match (match y with
    | .tup ws => some ws
    | .ref i => rd h i
    | _ => none) with
  | some ws => if (flatU x && ws.all flatU) = true then some (.ok (.bl (inF x ws != neg)) h) else none
  | none => none
theorem oIn_ok {neg : Bool} : OpC G (oIn neg) (rIn G.K neg) := fun E μ h H wx wy x y Q rel rx ry p => by
  unfold oIn at p
  split at p
  · rename_i ws e
    split at p
    · rename_i hc
      simp only [Bool.and_eq_true] at hc
      have fin : ∀ a xs, y = .ref a → (SqL G.K H a xs ∨ SqT G.K H a xs) → RUs G.K μ h.length H ws xs → rIn G.K neg x y H Q := fun a xs ey sq rs => by
        refine ⟨a, xs, ey, sq, flatU_ok hc.1 rx, flats_ok hc.2 rs, Post.ok rel p _ ?_⟩
        rw [inF_ok hc.1 rx hc.2 rs]
        cases neg <;> simp [RU]
      cases wy with
      | tup us =>
        simp only [Option.some.injEq] at e
        subst e
        simp only [RU] at ry
        obtain ⟨a, xs, ey, st, rs⟩ := ry
        exact fin a xs ey (.inr st) rs
      | ref i =>
        simp only [RU] at ry
        obtain ⟨_, ey⟩ := ry
        obtain ⟨xs, sq, rs⟩ := rd_ok rel e
        exact fin _ xs ey (.inl sq) rs
      | _ => simp at e
    · exact False.elim p
  · exact False.elim p

/-! ### xs[i] -/
theorem RUs.atI {K : PySem.W.Frag} {n : Nat} {ws : List U} {xs : List V} {i : Int} {w : U} (r : RUs K μ n H ws xs) (e : atI ws i = some w) : ∃ v, atI xs i = some v ∧ RU K μ n H w v := by
  unfold L2.atI at e ⊢
  rw [RUs.length r]
  cases e1 : ixN ws.length i with
  | none => rw [e1] at e; cases e
  | some j =>
    rw [e1] at e
    exact RUs.get r e
def oIx : O2 := fun x y h => match x, y with
  | .ref l, .int i => match rd h l with
    | some ws => match atI ws i with
      | some w => some (.ok w h)
      | none => none
    | none => none
  | .tup ws, .int i => match atI ws i with
    | some w => some (.ok w h)
    | none => none
  | .str z, .int i => match atI z.cps.toList i with
    | some c => if z.length ≤ LIM then some (.ok (.str ⟨#[c]⟩) h) else none
    | none => none
  | _, _ => none
theorem oIx_ok : OpC G oIx (rIx G.K) := fun E μ h H wx wy x y Q rel rx ry p => by
  unfold oIx at p
  split at p
  · rename_i l i
    simp only [RU] at rx ry
    obtain ⟨_, rfl⟩ := rx
    subst ry
    split at p
    · rename_i ws e1
      split at p
      · rename_i w e2
        obtain ⟨xs, sq, rs⟩ := rd_ok rel e1
        obtain ⟨v, ev, rv⟩ := RUs.atI rs e2
        exact .inl ⟨_, xs, i, v, rfl, rfl, sq, ev, Post.ok rel p _ rv⟩
      · exact False.elim p
    · exact False.elim p
  · rename_i ws i
    simp only [RU] at rx ry
    obtain ⟨a, xs, rfl, st, rs⟩ := rx
    subst ry
    split at p
    · rename_i w e2
      obtain ⟨v, ev, rv⟩ := RUs.atI rs e2
      exact .inr (.inl ⟨_, xs, i, v, rfl, rfl, st, ev, Post.ok rel p _ rv⟩)
    · exact False.elim p
  · rename_i z i
    simp only [RU] at rx ry
    subst rx ry
    split at p
    · rename_i c e2
      split at p
      · rename_i hc
        exact .inr (.inr ⟨z, i, c, rfl, rfl, lim_le hc, e2, Post.ok rel p _ rfl⟩)
      · exact False.elim p
    · exact False.elim p
  · exact False.elim p

/-! ### slices -/
abbrev MO := Ev → Hm → Option (Rz (Option Int))
def tO (G : Gm) (Wx : WX) (m : MO) : TO := fun σ H Q => ∃ μ ρ h, StOk G μ ρ h σ H ∧ Post G (fun _ _ H' b => Q b H') (fun cls d H' => Wx cls d σ H') μ h H (m ρ h)
theorem _root_.L2.PO.weak {X : Cx} {e : Option Expr} {t t' : TO} (h : PO X e t) (w : ∀ σ H Q, t' σ H Q → t σ H Q) : PO X e t' := by
  obtain ⟨h⟩ := h
  exact ⟨fun pins s σ H Q I q => h pins s σ H Q I (w σ H Q q)⟩
def mNoPart : MO := fun _ h => some (.ok none h)
def mPart (e : ME) : MO := fun ρ h => bnd (e ρ h) fun w h1 => match w with
  | .int i => some (.ok (some i) h1)
  | _ => none
theorem w_noPart : ∀ σ H Q, tO G Wx mNoPart σ H Q → tNoPart σ H Q := fun σ H Q ⟨μ, ρ, h, s, p⟩ => Post.ok s.rel p
theorem w_part {e : ME} : ∀ σ H Q, tO G Wx (mPart e) σ H Q → tPart (tE G Wx e) σ H Q := fun σ H Q ⟨μ, ρ, h, s, p⟩ =>
  ⟨μ, ρ, h, s, (Post.bnd p).mono fun μ1 h1 H1 w g q v r => by
    cases w with
    | int i =>
      simp only [RU] at r
      exact ⟨i, r, Post.ok g.rel q⟩
    | _ => exact False.elim q⟩
def cut {α : Type} (xs : List α) (lo hi : Option Int) : List α := (xs.drop (HT.sIx xs.length 0 lo)).take (HT.sIx xs.length xs.length hi - HT.sIx xs.length 0 lo)
theorem RUs.cut {K : PySem.W.Frag} {n : Nat} {ws : List U} {xs : List V} (r : RUs K μ n H ws xs) (lo hi : Option Int) : RUs K μ n H (cut ws lo hi) (cutV xs lo hi) := by
  unfold ML.cut cutV
  rw [RUs.length r]
  exact RUs.take _ (RUs.drop _ r)
abbrev OS := U → Option Int → Option Int → Hm → Option (Rz U)
def SlC (G : Gm) (f : OS) (r : V → Option Int → Option Int → Hp → VK → Prop) : Prop := ∀ (E : XK) μ h H wx x lo hi Q, HRel G μ h H → RU G.K μ h.length H wx x → Post G (PV G Q) E μ h H (f wx lo hi h) → r x lo hi H Q
def mSl (f : OS) (e : ME) (lo hi : MO) : ME := fun ρ h => bnd (e ρ h) fun x h1 => bnd (lo ρ h1) fun l h2 => bnd (hi ρ h2) fun u h3 => f x l u h3
theorem w_sl {f : OS} {r : V → Option Int → Option Int → Hp → VK → Prop} {e : ME} {lo hi : MO} (c : SlC G f r) : ∀ σ H Q, tE G Wx (mSl f e lo hi) σ H Q → tSl r (tE G Wx e) (tO G Wx lo) (tO G Wx hi) σ H Q := fun σ H Q ⟨μ, ρ, h, s, p⟩ =>
  ⟨μ, ρ, h, s, (Post.bnd p).mono fun μ1 h1 H1 wx g1 q1 x rx => ⟨μ1, ρ, h1, s.on g1, (Post.bnd q1).mono fun μ2 h2 H2 l g2 q2 => ⟨μ2, ρ, h2, (s.on g1).on g2, (Post.bnd q2).mono fun μ3 h3 H3 u g3 q3 =>
    c _ μ3 h3 H3 wx x l u Q g3.rel ((g2.trans g3).ru rx) q3⟩⟩⟩
def oSlL : OS := fun x lo hi h => match x with
  | .ref l => match rd h l with
    | some ws => some (.ok (.ref h.length) (h ++ [.lst (cut ws lo hi)]))
    | none => none
  | _ => none
theorem oSlL_ok : SlC G oSlL (rSlL G.K) := fun E μ h H wx x lo hi Q rel rx p => by
  unfold oSlL at p
  split at p
  · rename_i l
    simp only [RU] at rx
    obtain ⟨_, rfl⟩ := rx
    split at p
    · rename_i ws e1
      obtain ⟨xs, sq, rs⟩ := rd_ok rel e1
      refine ⟨_, xs, rfl, sq, fun q hq => ?_⟩
      have rr := RUs.mono (μ' := nu μ h.length q) (n' := h.length + 1) (H' := upd H q (.lst (cutV xs lo hi))) (fun i hi => nu_old hi) (Nat.le_succ _) (TS0.fresh hq) _ _ (rs.cut lo hi)
      have g := Gr.new (o := .lst (cutV xs lo hi)) (c := .lst (cut ws lo hi)) rel hq ⟨_, upd_same, rr⟩
      exact p _ _ g _ (by simp only [RU]; exact ⟨by simp, by rw [nu_new]⟩)
    · exact False.elim p
  · exact False.elim p
def oSlT : OS := fun x lo hi h => match x with
  | .tup ws => some (.ok (.tup (cut ws lo hi)) h)
  | _ => none
theorem cut_all {α : Type} {xs : List α} {lo hi : Option Int} (e : HT.sIx xs.length 0 lo = 0 ∧ HT.sIx xs.length xs.length hi = xs.length) : cut xs lo hi = xs := by
  unfold cut
  rw [e.1, e.2]
  simp
theorem ru_tup {K : PySem.W.Frag} {n : Nat} {ws : List U} {a : Addr} {xs : List V} (s : SqT K H a xs) (r : RUs K μ n H ws xs) : RU K μ n H (.tup ws) (.ref a) := by
  simp only [RU]
  exact ⟨a, xs, rfl, s, r⟩
/-- a new tuple -/
theorem new_tup {E : XK} {Q : VK} {ws : List U} {xs : List V} (rel : HRel G μ h H) (rs : RUs G.K μ h.length H ws xs) (p : Post G (PV G Q) E μ h H (some (.ok (.tup ws) h))) : ∀ q, H q = none → Q (.ref q) (upd H q (.tup xs)) := fun q hq =>
  p μ _ (Gr.fresh rel hq) _ (ru_tup (SqT.of upd_same) (rs.same (TS0.fresh hq)))
theorem oSlT_ok : SlC G oSlT (rSlA G.K) := fun E μ h H wx x lo hi Q rel rx p => by
  unfold oSlT at p
  split at p
  · rename_i ws
    simp only [RU] at rx
    obtain ⟨a, xs, rfl, st, rs⟩ := rx
    refine ⟨a, xs, rfl, st, fun e => ?_, fun _ => new_tup rel (rs.cut lo hi) p⟩
    rw [RUs.length rs] at e
    rw [cut_all e] at p
    exact Post.ok rel p _ (ru_tup st rs)
  · exact False.elim p
def oAddT2 : O2 := fun x y h => match x, y with
  | .tup xs, .tup ys => if xs.length + ys.length ≤ LIM then some (.ok (.tup (xs ++ ys)) h) else none
  | _, _ => none
theorem oAddT2_ok : OpC G oAddT2 (rCatA G.K) := fun E μ h H wx wy x y Q rel rx ry p => by
  unfold oAddT2 at p
  split at p
  · rename_i xs ys
    simp only [RU] at rx ry
    obtain ⟨a, vs, rfl, sa, ra⟩ := rx
    obtain ⟨b, us, rfl, sb, rb⟩ := ry
    split at p
    · rename_i hc
      refine ⟨a, b, vs, us, rfl, rfl, sa, sb, by rw [RUs.length ra, RUs.length rb]; exact lim_le hc, fun e => ?_, fun _ e => ?_, fun _ _ => new_tup rel (ra.append rb) p⟩
      · have e2 : xs = [] := List.eq_nil_of_length_eq_zero (by rw [← RUs.length ra, e]; rfl)
        subst e2
        exact Post.ok rel p _ (ru_tup sb rb)
      · have e2 : ys = [] := List.eq_nil_of_length_eq_zero (by rw [← RUs.length rb, e]; rfl)
        subst e2
        rw [List.append_nil] at p
        exact Post.ok rel p _ (ru_tup sa ra)
    · exact False.elim p
  · exact False.elim p
end
end ML

set_option maxHeartbeats 4000000
namespace ML
open PySem L2
section
variable {G : Gm} {Wx : WX} {μ μ' : Nat → Addr} {h h' : Hm} {H H' : Hp} {ρ : Ev} {σ : St}

/-! ### tests -/
def toB (w : U) (h : Hm) : Option (Rz Bool) := match w with
  | .bl b => some (.ok b h)
  | _ => none
def mB (e : ME) : MT := fun ρ h => bnd (e ρ h) toB
theorem w_B {e : ME} : ∀ σ H Q, tT G Wx (mB e) σ H Q → tB (tE G Wx e) σ H Q := fun σ H Q ⟨μ, ρ, h, s, p⟩ =>
  ⟨μ, ρ, h, s, (Post.bnd p).mono fun μ1 h1 H1 w g q v r => by
    cases w with
    | bl b => simp only [RU] at r; exact ⟨b, r, Post.ok g.rel q⟩
    | _ => exact False.elim q⟩
theorem w_test {e : ME} : ∀ σ H Q, tT G Wx (mB e) σ H Q → tTest (tE G Wx e) σ H Q := fun σ H Q z => w_B σ H Q z
theorem w_testop {f : O2} {r : R2} {a b : ME} (c : OpC G f r) : ∀ σ H Q, tT G Wx (mB (mOp f a b)) σ H Q → tTest (tOp r (tE G Wx a) (tE G Wx b)) σ H Q := fun σ H Q z => w_op c σ H _ (w_B σ H Q z)
theorem w_testN {a : ME} : ∀ σ H Q, tT G Wx (mB (mIsN false a)) σ H Q → tB (tIsN (tE G Wx a)) σ H Q := fun σ H Q z => w_isN σ H _ (w_B σ H Q z)
theorem w_testNN {a : ME} : ∀ σ H Q, tT G Wx (mB (mIsN true a)) σ H Q → tB (tNotN (tE G Wx a)) σ H Q := fun σ H Q z => w_notN σ H _ (w_B σ H Q z)
def mTAnd (a b : MT) : MT := fun ρ h => bnd (a ρ h) fun c h1 => if c = true then b ρ h1 else some (.ok false h1)
def mTOr (a b : MT) : MT := fun ρ h => bnd (a ρ h) fun c h1 => if c = true then some (.ok true h1) else b ρ h1
def mTNot (a : MT) : MT := fun ρ h => bnd (a ρ h) fun c h1 => some (.ok (!c) h1)
theorem w_tand {a b : MT} : ∀ σ H Q, tT G Wx (mTAnd a b) σ H Q → tAnd (tT G Wx a) (tT G Wx b) σ H Q := fun σ H Q ⟨μ, ρ, h, s, p⟩ =>
  ⟨μ, ρ, h, s, (Post.bnd p).mono fun μ1 h1 H1 c g q => by
    cases c with
    | true => rw [if_pos rfl] at q ⊢; exact ⟨μ1, ρ, h1, s.on g, q⟩
    | false => rw [if_neg Bool.false_ne_true] at q ⊢; exact Post.ok g.rel q⟩
theorem w_tor {a b : MT} : ∀ σ H Q, tT G Wx (mTOr a b) σ H Q → tOr (tT G Wx a) (tT G Wx b) σ H Q := fun σ H Q ⟨μ, ρ, h, s, p⟩ =>
  ⟨μ, ρ, h, s, (Post.bnd p).mono fun μ1 h1 H1 c g q => by
    cases c with
    | true => rw [if_pos rfl] at q ⊢; exact Post.ok g.rel q
    | false => rw [if_neg Bool.false_ne_true] at q ⊢; exact ⟨μ1, ρ, h1, s.on g, q⟩⟩
theorem w_tnot {a : MT} : ∀ σ H Q, tT G Wx (mTNot a) σ H Q → tNot (tT G Wx a) σ H Q := fun σ H Q ⟨μ, ρ, h, s, p⟩ =>
  ⟨μ, ρ, h, s, (Post.bnd p).mono fun μ1 h1 H1 c g q => Post.ok g.rel q⟩
/-- and, or, not as values -/
def mAnd (a b : ME) : ME := fun ρ h => bnd (a ρ h) fun w h1 => match w with
  | .bl c => if c = true then b ρ h1 else some (.ok (.bl false) h1)
  | _ => none
def mOr (a b : ME) : ME := fun ρ h => bnd (a ρ h) fun w h1 => match w with
  | .bl c => if c = true then some (.ok (.bl true) h1) else b ρ h1
  | _ => none
def mNot (a : ME) : ME := fun ρ h => bnd (a ρ h) fun w h1 => match w with
  | .bl c => some (.ok (.bl (!c)) h1)
  | _ => none
def mIfE (c : MT) (a b : ME) : ME := fun ρ h => bnd (c ρ h) fun k h1 => if k = true then a ρ h1 else b ρ h1
theorem w_and {a b : ME} : ∀ σ H Q, tE G Wx (mAnd a b) σ H Q → tAndV (tE G Wx a) (tE G Wx b) σ H Q := fun σ H Q ⟨μ, ρ, h, s, p⟩ =>
  ⟨μ, ρ, h, s, (Post.bnd p).mono fun μ1 h1 H1 w g q v r => by
    cases w with
    | bl c =>
      simp only [RU] at r
      refine ⟨c, r, ?_⟩
      cases c with
      | true => simp only [if_true] at q ⊢; exact ⟨μ1, ρ, h1, s.on g, q⟩
      | false => simp only [Bool.false_eq_true, if_false] at q ⊢; exact Post.ok g.rel q _ rfl
    | _ => exact False.elim q⟩
theorem w_or {a b : ME} : ∀ σ H Q, tE G Wx (mOr a b) σ H Q → tOrV (tE G Wx a) (tE G Wx b) σ H Q := fun σ H Q ⟨μ, ρ, h, s, p⟩ =>
  ⟨μ, ρ, h, s, (Post.bnd p).mono fun μ1 h1 H1 w g q v r => by
    cases w with
    | bl c =>
      simp only [RU] at r
      refine ⟨c, r, ?_⟩
      cases c with
      | true => simp only [if_true] at q ⊢; exact Post.ok g.rel q _ rfl
      | false => simp only [Bool.false_eq_true, if_false] at q ⊢; exact ⟨μ1, ρ, h1, s.on g, q⟩
    | _ => exact False.elim q⟩
theorem w_not {a : ME} : ∀ σ H Q, tE G Wx (mNot a) σ H Q → tNotV (tE G Wx a) σ H Q := fun σ H Q ⟨μ, ρ, h, s, p⟩ =>
  ⟨μ, ρ, h, s, (Post.bnd p).mono fun μ1 h1 H1 w g q v r => by
    cases w with
    | bl c => simp only [RU] at r; exact ⟨c, r, Post.ok g.rel q _ rfl⟩
    | _ => exact False.elim q⟩
theorem w_ifE {c : MT} {a b : ME} : ∀ σ H Q, tE G Wx (mIfE c a b) σ H Q → tIf (tT G Wx c) (tE G Wx a) (tE G Wx b) σ H Q := fun σ H Q ⟨μ, ρ, h, s, p⟩ =>
  ⟨μ, ρ, h, s, (Post.bnd p).mono fun μ1 h1 H1 k g q => by
    cases k with
    | true => rw [if_pos rfl] at q ⊢; exact ⟨μ1, ρ, h1, s.on g, q⟩
    | false => rw [if_neg Bool.false_ne_true] at q ⊢; exact ⟨μ1, ρ, h1, s.on g, q⟩⟩
/-- a < b < c -/
def mChain (f f' : O2) (a b c : ME) : ME := fun ρ h => bnd (a ρ h) fun x h1 => bnd (b ρ h1) fun y h2 => bnd (f x y h2) fun z h3 => match z with
  | .bl k => if k = true then bnd (c ρ h3) fun w h4 => f' y w h4 else some (.ok (.bl false) h3)
  | _ => none
theorem w_chain {f f' : O2} {r r' : R2} {a b c : ME} (c1 : OpC G f r) (c2 : OpC G f' r') : ∀ σ H Q, tE G Wx (mChain f f' a b c) σ H Q → tChain r r' (tE G Wx a) (tE G Wx b) (tE G Wx c) σ H Q := fun σ H Q ⟨μ, ρ, h, s, p⟩ =>
  ⟨μ, ρ, h, s, (Post.bnd p).mono fun μ1 h1 H1 wx g1 q1 x rx => ⟨μ1, ρ, h1, s.on g1, (Post.bnd q1).mono fun μ2 h2 H2 wy g2 q2 y ry =>
    c1 _ μ2 h2 H2 wx wy x y _ g2.rel (g2.ru rx) ry ((Post.bnd q2).mono fun μ3 h3 H3 wz g3 q3 z rz => by
      cases wz with
      | bl k =>
        simp only [RU] at rz
        refine ⟨k, rz, ?_⟩
        cases k with
        | true =>
          simp only [if_true] at q3 ⊢
          exact ⟨μ3, ρ, h3, ((s.on g1).on g2).on g3, (Post.bnd q3).mono fun μ4 h4 H4 ww g4 q4 w rw => c2 _ μ4 h4 H4 wy ww y w Q g4.rel ((g3.trans g4).ru ry) rw q4⟩
        | false => simp only [Bool.false_eq_true, if_false] at q3 ⊢; exact Post.ok g3.rel q3 _ rfl
      | _ => exact False.elim q3)⟩⟩
theorem w_testchain {f f' : O2} {r r' : R2} {a b c : ME} (c1 : OpC G f r) (c2 : OpC G f' r') : ∀ σ H Q, tT G Wx (mB (mChain f f' a b c)) σ H Q → tTest (tChain r r' (tE G Wx a) (tE G Wx b) (tE G Wx c)) σ H Q :=
  fun σ H Q z => w_chain c1 c2 σ H _ (w_B σ H Q z)
/-- -a -/
def mNeg (a : ME) : ME := fun ρ h => bnd (a ρ h) fun w h1 => match w with
  | .int i => some (.ok (.int (-i)) h1)
  | _ => none
theorem w_neg {a : ME} : ∀ σ H Q, tE G Wx (mNeg a) σ H Q → tUn (rU fun i => .int (-i)) (tE G Wx a) σ H Q := fun σ H Q ⟨μ, ρ, h, s, p⟩ =>
  ⟨μ, ρ, h, s, (Post.bnd p).mono fun μ1 h1 H1 w g q v r => by
    cases w with
    | int i => simp only [RU] at r; exact ⟨i, r, Post.ok g.rel q _ rfl⟩
    | _ => exact False.elim q⟩

/-! ### arguments, displays -/
def mNil : MA := fun _ h => some (.ok [] h)
def mCons (e : ME) (es : MA) : MA := fun ρ h => bnd (e ρ h) fun w h1 => bnd (es ρ h1) fun ws h2 => some (.ok (w :: ws) h2)
theorem w_nil : ∀ σ H Q, tA G Wx mNil σ H Q → tNil σ H Q := fun σ H Q ⟨μ, ρ, h, s, p⟩ => Post.ok s.rel p _ RUs.nil
theorem w_cons {e : ME} {es : MA} : ∀ σ H Q, tA G Wx (mCons e es) σ H Q → tCons (tE G Wx e) (tA G Wx es) σ H Q := fun σ H Q ⟨μ, ρ, h, s, p⟩ =>
  ⟨μ, ρ, h, s, (Post.bnd p).mono fun μ1 h1 H1 wx g1 q1 x rx => ⟨μ1, ρ, h1, s.on g1, (Post.bnd q1).mono fun μ2 h2 H2 ws g2 q2 vs rs => Post.ok g2.rel q2 _ (RUs.cons (g2.ru rx) rs)⟩⟩
def mTup (es : MA) : ME := fun ρ h => bnd (es ρ h) fun ws h1 => if ws.length ≤ LIM then some (.ok (.tup ws) h1) else none
def mLst (es : MA) : ME := fun ρ h => bnd (es ρ h) fun ws h1 => if ws.length ≤ LIM then some (.ok (.ref h1.length) (h1 ++ [.lst ws])) else none
theorem w_tup {es : MA} : ∀ σ H Q, tE G Wx (mTup es) σ H Q → tTup (tA G Wx es) σ H Q := fun σ H Q ⟨μ, ρ, h, s, p⟩ =>
  ⟨μ, ρ, h, s, (Post.bnd p).mono fun μ1 h1 H1 ws g q vs rs => by
    split at q
    · rename_i hc
      exact ⟨by rw [RUs.length rs]; exact lim_le hc, new_tup g.rel rs q⟩
    · exact False.elim q⟩
/-- a new list -/
theorem new_lst {E : XK} {Q : VK} {ws : List U} {xs : List V} (rel : HRel G μ h H) (rs : RUs G.K μ h.length H ws xs) (p : Post G (PV G Q) E μ h H (some (.ok (.ref h.length) (h ++ [.lst ws])))) : ∀ q, H q = none → Q (.ref q) (upd H q (.lst xs)) := fun q hq => by
  have rr := RUs.mono (μ' := nu μ h.length q) (n' := h.length + 1) (H' := upd H q (.lst xs)) (fun i hi => nu_old hi) (Nat.le_succ _) (TS0.fresh hq) _ _ rs
  have g := Gr.new (o := .lst xs) (c := .lst ws) rel hq ⟨_, upd_same, rr⟩
  exact p _ _ g _ (by simp only [RU]; exact ⟨by simp, by rw [nu_new]⟩)
theorem w_lst {es : MA} : ∀ σ H Q, tE G Wx (mLst es) σ H Q → tLst (tA G Wx es) σ H Q := fun σ H Q ⟨μ, ρ, h, s, p⟩ =>
  ⟨μ, ρ, h, s, (Post.bnd p).mono fun μ1 h1 H1 ws g q vs rs => by
    split at q
    · rename_i hc
      exact ⟨by rw [RUs.length rs]; exact lim_le hc, new_lst g.rel rs q⟩
    · exact False.elim q⟩

/-! ### calls of built-ins -/
def CallC (G : Gm) (f : MF) (r : List V → Hp → VK → Prop) : Prop := ∀ (E : XK) μ h H ws vs Q, HRel G μ h H → RUs G.K μ h.length H ws vs → Post G (PV G Q) E μ h H (f ws h) → r vs H Q
def mCB (f : MF) (es : MA) : ME := fun ρ h => bnd (es ρ h) fun ws h1 => f ws h1
theorem w_cb {f : MF} {r : List V → Hp → VK → Prop} {es : MA} (c : CallC G f r) : ∀ σ H Q, tE G Wx (mCB f es) σ H Q → tCB r (tA G Wx es) σ H Q := fun σ H Q ⟨μ, ρ, h, s, p⟩ =>
  ⟨μ, ρ, h, s, (Post.bnd p).mono fun μ1 h1 H1 ws g q vs rs => c _ μ1 h1 H1 ws vs Q g.rel rs q⟩
theorem rus1 {K : PySem.W.Frag} {n : Nat} {w : U} {vs : List V} (r : RUs K μ n H [w] vs) : ∃ v, vs = [v] ∧ RU K μ n H w v := by
  simp only [RUs] at r
  obtain ⟨y, ys, rfl, r1, rfl⟩ := r
  exact ⟨y, rfl, r1⟩
theorem rus2 {K : PySem.W.Frag} {n : Nat} {w u : U} {vs : List V} (r : RUs K μ n H [w, u] vs) : ∃ v x, vs = [v, x] ∧ RU K μ n H w v ∧ RU K μ n H u x := by
  simp only [RUs] at r
  obtain ⟨y, ys, rfl, r1, z, zs, rfl, r2, rfl⟩ := r
  exact ⟨y, z, rfl, r1, r2⟩
/-- len of a list or a tuple, of a text -/
def fLen : MF := fun ws h => match ws with
  | [.ref i] => match rd h i with
    | some us => some (.ok (.int us.length) h)
    | none => none
  | [.tup us] => some (.ok (.int us.length) h)
  | [.str z] => if z.length ≤ LIM then some (.ok (.int z.length) h) else none
  | _ => none
theorem fLen_ok : CallC G fLen (fun xs H Q => ∃ x n, xs = [x] ∧ LenV G.K x H n ∧ Q (.int n) H) := fun E μ h H ws vs Q rel rs p => by
  unfold fLen at p
  split at p
  · rename_i i
    obtain ⟨v, rfl, r⟩ := rus1 rs
    simp only [RU] at r
    obtain ⟨_, rfl⟩ := r
    split at p
    · rename_i us e
      obtain ⟨xs, sq, rr⟩ := rd_ok rel e
      exact ⟨_, us.length, rfl, .inl ⟨xs, sq, (RUs.length rr).symm⟩, Post.ok rel p _ rfl⟩
    · exact False.elim p
  · rename_i us
    obtain ⟨v, rfl, r⟩ := rus1 rs
    simp only [RU] at r
    obtain ⟨a, xs, rfl, st, rr⟩ := r
    exact ⟨_, us.length, rfl, .inr ⟨xs, st, (RUs.length rr).symm⟩, Post.ok rel p _ rfl⟩
  · rename_i z
    obtain ⟨v, rfl, r⟩ := rus1 rs
    simp only [RU] at r
    subst r
    split at p
    · rename_i hc
      exact ⟨_, z.length, rfl, ⟨lim_le hc, rfl⟩, Post.ok rel p _ rfl⟩
    · exact False.elim p
  · exact False.elim p
def fAbs : MF := fun ws h => match ws with
  | [.int i] => some (.ok (.int (if i < 0 then -i else i)) h)
  | _ => none
theorem fAbs_ok : CallC G fAbs (fun xs H Q => ∃ i, xs = [.int i] ∧ Q (.int (if i < 0 then -i else i)) H) := fun E μ h H ws vs Q rel rs p => by
  unfold fAbs at p
  split at p
  · rename_i i
    obtain ⟨v, rfl, r⟩ := rus1 rs
    simp only [RU] at r
    subst r
    exact ⟨i, rfl, Post.ok rel p _ rfl⟩
  · exact False.elim p
def fMax2 : MF := fun ws h => match ws with
  | [.int i, .int j] => some (.ok (.int (if j > i then j else i)) h)
  | _ => none
theorem fMax2_ok : CallC G fMax2 (fun xs H Q => ∃ i j, xs = [.int i, .int j] ∧ Q (.int (if j > i then j else i)) H) := fun E μ h H ws vs Q rel rs p => by
  unfold fMax2 at p
  split at p
  · rename_i i j
    obtain ⟨v, u, rfl, r1, r2⟩ := rus2 rs
    simp only [RU] at r1 r2
    subst r1 r2
    exact ⟨i, j, rfl, Post.ok rel p _ rfl⟩
  · exact False.elim p
def fMin2 : MF := fun ws h => match ws with
  | [.int i, .int j] => some (.ok (.int (if j < i then j else i)) h)
  | _ => none
theorem fMin2_ok : CallC G fMin2 (fun xs H Q => ∃ i j, xs = [.int i, .int j] ∧ Q (.int (if j < i then j else i)) H) := fun E μ h H ws vs Q rel rs p => by
  unfold fMin2 at p
  split at p
  · rename_i i j
    obtain ⟨v, u, rfl, r1, r2⟩ := rus2 rs
    simp only [RU] at r1 r2
    subst r1 r2
    exact ⟨i, j, rfl, Post.ok rel p _ rfl⟩
  · exact False.elim p
/-- int of an int, of a bool, of a text -/
def fInt : MF := fun ws h => match ws with
  | [.int i] => some (.ok (.int i) h)
  | [.bl k] => some (.ok (.int (if k then 1 else 0)) h)
  | _ => none
theorem fInt_ok : CallC G fInt (fun xs H Q => (∃ i, xs = [.int i] ∧ Q (.int i) H) ∨ ∃ k, xs = [.bl k] ∧ Q (.int (if k then 1 else 0)) H) := fun E μ h H ws vs Q rel rs p => by
  unfold fInt at p
  split at p
  · rename_i i
    obtain ⟨v, rfl, r⟩ := rus1 rs
    simp only [RU] at r
    subst r
    exact .inl ⟨i, rfl, Post.ok rel p _ rfl⟩
  · rename_i k
    obtain ⟨v, rfl, r⟩ := rus1 rs
    simp only [RU] at r
    subst r
    exact .inr ⟨k, rfl, Post.ok rel p _ rfl⟩
  · exact False.elim p
def fIntS : MF := fun ws h => match ws with
  | [.str a] => match PySem.intText? a with
    | some n => if a.length ≤ 640 then some (.ok (.int n) h) else none
    | none => none
  | _ => none
theorem fIntS_ok : CallC G fIntS (fun xs H Q => ∃ a n, xs = [.str a] ∧ PySem.intText? a = some n ∧ a.length ≤ 640 ∧ Q (.int n) H) := fun E μ h H ws vs Q rel rs p => by
  unfold fIntS at p
  split at p
  · rename_i a
    obtain ⟨v, rfl, r⟩ := rus1 rs
    simp only [RU] at r
    subst r
    split at p
    · rename_i n e
      split at p
      · rename_i hc
        exact ⟨a, n, rfl, e, hc, Post.ok rel p _ rfl⟩
      · exact False.elim p
    · exact False.elim p
  · exact False.elim p
/-- str of an int -/
def fStrI : MF := fun ws h => match ws with
  | [.int i] => if i.natAbs.log2 < 1920 then some (.ok (.str (toString i)) h) else none
  | _ => none
theorem fStrI_ok : CallC G fStrI (fun xs H Q => ∃ i, xs = [.int i] ∧ i.natAbs.log2 < 1920 ∧ Q (.str (toString i)) H) := fun E μ h H ws vs Q rel rs p => by
  unfold fStrI at p
  split at p
  · rename_i i
    obtain ⟨v, rfl, r⟩ := rus1 rs
    simp only [RU] at r
    subst r
    split at p
    · rename_i hc
      exact ⟨i, rfl, hc, Post.ok rel p _ rfl⟩
    · exact False.elim p
  · exact False.elim p
/-- all(xs), any(xs) of truth values -/
def blsOf : List U → Option (List Bool)
  | [] => some []
  | .bl b :: ws => match blsOf ws with
    | some bs => some (b :: bs)
    | none => none
  | _ :: _ => none
theorem blsOf_ok {K : PySem.W.Frag} {n : Nat} : ∀ {ws : List U} {vs : List V} {bs : List Bool}, blsOf ws = some bs → RUs K μ n H ws vs → vs = bs.map V.bl
  | [], vs, bs, e, r => by simp only [RUs] at r; subst r; cases e; rfl
  | w :: ws, vs, bs, e, r => by
    cases w <;> first | (cases e; done) | skip
    rename_i b
    simp only [blsOf] at e
    simp only [RUs] at r
    obtain ⟨y, ys, rfl, r1, rs⟩ := r
    cases e1 : blsOf ws with
    | none => rw [e1] at e; cases e
    | some bs2 =>
      rw [e1] at e
      cases e
      simp only [RU] at r1
      rw [r1, blsOf_ok e1 rs]
      rfl
def fAll (any : Bool) : MF := fun ws h => match ws with
  | [.ref i] => match rd h i with
    | some us => match blsOf us with
      | some bs => some (.ok (.bl (if any then bs.any id else bs.all id)) h)
      | none => none
    | none => none
  | _ => none
theorem fAll_ok : CallC G (fAll false) (fun vs H Q => ∃ (a : Addr) (bs : List Bool), vs = [V.ref a] ∧ SqL G.K H a (bs.map V.bl) ∧ Q (.bl (bs.all id)) H) := fun E μ h H ws vs Q rel rs p => by
  unfold fAll at p
  split at p
  · rename_i i
    obtain ⟨v, rfl, r⟩ := rus1 rs
    simp only [RU] at r
    obtain ⟨_, rfl⟩ := r
    split at p
    · rename_i us e
      split at p
      · rename_i bs eb
        obtain ⟨xs, sq, rr⟩ := rd_ok rel e
        have := blsOf_ok eb rr
        subst this
        exact ⟨_, bs, rfl, sq, Post.ok rel p _ (by simp [RU])⟩
      · exact False.elim p
    · exact False.elim p
  · exact False.elim p
theorem fAny_ok : CallC G (fAll true) (fun vs H Q => ∃ (a : Addr) (bs : List Bool), vs = [V.ref a] ∧ SqL G.K H a (bs.map V.bl) ∧ Q (.bl (bs.any id)) H) := fun E μ h H ws vs Q rel rs p => by
  unfold fAll at p
  split at p
  · rename_i i
    obtain ⟨v, rfl, r⟩ := rus1 rs
    simp only [RU] at r
    obtain ⟨_, rfl⟩ := r
    split at p
    · rename_i us e
      split at p
      · rename_i bs eb
        obtain ⟨xs, sq, rr⟩ := rd_ok rel e
        have := blsOf_ok eb rr
        subst this
        exact ⟨_, bs, rfl, sq, Post.ok rel p _ (by simp [RU])⟩
      · exact False.elim p
    · exact False.elim p
  · exact False.elim p
/-- list(x), tuple(x) -/
def fList : MF := fun ws h => match (match ws with
    | [.ref i] => rd h i
    | [.tup us] => some us
    | _ => none) with
  | some us => some (.ok (.ref h.length) (h ++ [.lst us]))
  | none => none
theorem fList_ok : CallC G fList (fun xs H Q => ∃ p ys, xs = [.ref p] ∧ (SqL G.K H p ys ∨ SqT G.K H p ys) ∧ ∀ l, H l = none → Q (.ref l) (upd H l (.lst ys))) := fun E μ h H ws vs Q rel rs p => by
  unfold fList at p
  split at p
  · rename_i us e
    split at e
    · rename_i i
      obtain ⟨v, rfl, r⟩ := rus1 rs
      simp only [RU] at r
      obtain ⟨_, rfl⟩ := r
      obtain ⟨xs, sq, rr⟩ := rd_ok rel e
      exact ⟨_, xs, rfl, .inl sq, new_lst rel rr p⟩
    · rename_i us'
      cases e
      obtain ⟨v, rfl, r⟩ := rus1 rs
      simp only [RU] at r
      obtain ⟨a, xs, rfl, st, rr⟩ := r
      exact ⟨_, xs, rfl, .inr st, new_lst rel rr p⟩
    · cases e
  · exact False.elim p
def fTuple : MF := fun ws h => match (match ws with
    | [.ref i] => rd h i
    | [.tup us] => some us
    | _ => none) with
  | some us => some (.ok (.tup us) h)
  | none => none
theorem fTuple_ok : CallC G fTuple (fun xs H Q => ∃ p ys, xs = [.ref p] ∧ ((SqL G.K H p ys ∧ ∀ l, H l = none → Q (.ref l) (upd H l (.tup ys))) ∨ (SqT G.K H p ys ∧ Q (.ref p) H))) := fun E μ h H ws vs Q rel rs p => by
  unfold fTuple at p
  split at p
  · rename_i us e
    split at e
    · rename_i i
      obtain ⟨v, rfl, r⟩ := rus1 rs
      simp only [RU] at r
      obtain ⟨_, rfl⟩ := r
      obtain ⟨xs, sq, rr⟩ := rd_ok rel e
      exact ⟨_, xs, rfl, .inl ⟨sq, new_tup rel rr p⟩⟩
    · rename_i us'
      cases e
      obtain ⟨v, rfl, r⟩ := rus1 rs
      simp only [RU] at r
      obtain ⟨a, xs, rfl, st, rr⟩ := r
      exact ⟨_, xs, rfl, .inr ⟨st, Post.ok rel p _ (ru_tup st rr)⟩⟩
    · cases e
  · exact False.elim p

/-! ### methods of built-in types -/
def MtC (G : Gm) (T : String) (f : U → MF) (r : V → List V → Hp → VK → Prop) : Prop := ∀ (E : XK) μ h H wx x ws vs Q, HRel G μ h H → RU G.K μ h.length H wx x → RUs G.K μ h.length H ws vs → Post G (PV G Q) E μ h H (f wx ws h) → r x vs H Q
/-- what kind a value must be for its method to be looked up -/
def TyC (G : Gm) (T : String) (k : U → Hm → Bool) : Prop := ∀ μ h H w v, HRel G μ h H → RU G.K μ h.length H w v → k w h = true → tyV G.K T v H
def mBM (k : U → Hm → Bool) (f : U → MF) (o : ME) (es : MA) : ME := fun ρ h => bnd (o ρ h) fun x h1 => if k x h1 = true then bnd (es ρ h1) fun ws h2 => f x ws h2 else none
theorem w_bm {T : String} {k : U → Hm → Bool} {f : U → MF} {r : V → List V → Hp → VK → Prop} {o : ME} {es : MA} (ty : TyC G T k) (c : MtC G T f r) : ∀ σ H Q, tE G Wx (mBM k f o es) σ H Q → tBM G.K T r (tE G Wx o) (tA G Wx es) σ H Q := fun σ H Q ⟨μ, ρ, h, s, p⟩ =>
  ⟨μ, ρ, h, s, (Post.bnd p).mono fun μ1 h1 H1 wx g1 q1 x rx => by
    split at q1
    · rename_i hk
      exact ⟨ty μ1 h1 H1 wx x g1.rel rx hk, μ1, ρ, h1, s.on g1, (Post.bnd q1).mono fun μ2 h2 H2 ws g2 q2 vs rs => c _ μ2 h2 H2 wx x ws vs Q g2.rel (g2.ru rx) rs q2⟩
    · exact False.elim q1⟩
theorem w_bm0 {T : String} {k : U → Hm → Bool} {f : U → MF} {r : V → List V → Hp → VK → Prop} {o : ME} (ty : TyC G T k) (c : MtC G T f r) : ∀ σ H Q, tE G Wx (mBM k f o mNil) σ H Q → tBM0 G.K T r (tE G Wx o) σ H Q := fun σ H Q ⟨μ, ρ, h, s, p⟩ =>
  ⟨μ, ρ, h, s, (Post.bnd p).mono fun μ1 h1 H1 wx g1 q1 x rx => by
    split at q1
    · rename_i hk
      exact ⟨ty μ1 h1 H1 wx x g1.rel rx hk, c _ μ1 h1 H1 wx x [] [] Q g1.rel rx RUs.nil q1⟩
    · exact False.elim q1⟩
def kList : U → Hm → Bool := fun w h => match w with
  | .ref i => match h[i]? with
    | some (.lst _) => true
    | _ => false
  | _ => false
theorem kList_ok : TyC G "list" kList := fun μ h H w v rel r e => by
  unfold kList at e
  split at e
  · rename_i i
    split at e
    · rename_i ws ec
      simp only [RU] at r
      obtain ⟨_, rfl⟩ := r
      obtain ⟨xs, s, _⟩ := rel.cell i _ ec
      exact .inl ⟨rfl, xs, SqL.of s⟩
    · cases e
  · cases e
def kStr : U → Hm → Bool := fun w _ => match w with
  | .str _ => true
  | _ => false
theorem kStr_ok : TyC G "str" kStr := fun μ h H w v rel r e => by
  unfold kStr at e
  split at e
  · simp only [RU] at r
    subst r
    exact rfl
  · cases e
def fAppend : U → MF := fun x ws h => match x, ws with
  | .ref l, [w] => match h[l]? with
    | some (.lst us) => if us.length < LIM then some (.ok .non (h.set l (.lst (us ++ [w])))) else none
    | _ => none
  | _, _ => none
theorem fAppend_ok : MtC G "list" fAppend rAppend := fun E μ h H wx x ws vs Q rel rx rs p => by
  unfold fAppend at p
  split at p
  · rename_i l w
    simp only [RU] at rx
    obtain ⟨hl, rfl⟩ := rx
    obtain ⟨v, rfl, rv⟩ := rus1 rs
    split at p
    · rename_i us ec
      split at p
      · rename_i hc
        obtain ⟨xs, s, rr⟩ := rel.cell l _ ec
        refine ⟨_, xs, v, rfl, rfl, s, by rw [RUs.length rr]; exact Nat.lt_of_lt_of_le hc (lim_le (Nat.le_refl _)), ?_⟩
        have ts : TS0 G.K H (upd H (μ l) (.lst (xs ++ [v]))) := TS0.write s rfl
        have g := Gr.write (o := .lst (xs ++ [v])) (d := .lst (us ++ [w])) rel ec rfl rfl ⟨_, upd_same, (rr.append (RUs.cons rv RUs.nil)).same ts⟩
        exact p _ _ g _ rfl
      · exact False.elim p
    · exact False.elim p
  · exact False.elim p
def fPop : U → MF := fun x ws h => match x, ws with
  | .ref l, [] => match h[l]? with
    | some (.lst us) => match us[us.length - 1]? with
      | some w => some (.ok w (h.set l (.lst us.dropLast)))
      | none => none
    | _ => none
  | _, _ => none

/-! ### xs[i] = e -/
def mSetIx (e o i : ME) : MS := fun ρ h => bndS ρ (e ρ h) fun w h1 => bndS ρ (o ρ h1) fun x h2 => bndS ρ (i ρ h2) fun y h3 => match x, y with
  | .ref l, .int k => match h3[l]? with
    | some (.lst us) => match ixN us.length k with
      | some j => some (.nx ρ (h3.set l (.lst (us.set j w))))
      | none => none
    | _ => none
  | _, _ => none
theorem w_setIx {e o i : ME} : ∀ D σ H, tS G Wx (mSetIx e o i) D σ H → tAsg (tE G Wx e) (gSub (tE G Wx o) (tE G Wx i) rSetL) D σ H := fun D σ H ⟨μ, ρ, h, s, p⟩ =>
  ⟨μ, ρ, h, s, (PostS.bnd s p).mono fun μ1 h1 H1 w g1 q1 v rv => ⟨μ1, ρ, h1, s.on g1, (PostS.bnd (s.on g1) q1).mono fun μ2 h2 H2 wx g2 q2 x rx => ⟨μ2, ρ, h2, (s.on g1).on g2, (PostS.bnd ((s.on g1).on g2) q2).mono fun μ3 h3 H3 wy g3 q3 y ry => by
    have rx := g3.ru rx
    have rv := (g2.trans g3).ru rv
    cases wx with
    | ref l =>
      cases wy with
      | int k =>
        simp only [RU] at rx ry
        obtain ⟨hl, rfl⟩ := rx
        subst ry
        simp only at q3
        split at q3
        · rename_i us ec
          split at q3
          · rename_i j ej
            obtain ⟨xs, sx, rr⟩ := g3.rel.cell l _ ec
            refine ⟨_, xs, k, j, rfl, rfl, sx, by rw [RUs.length rr]; exact ej, ?_⟩
            have ts : TS0 G.K H3 (upd H3 (μ3 l) (.lst (xs.set j v))) := TS0.write sx rfl
            have g := Gr.write (o := .lst (xs.set j v)) (d := .lst (us.set j w)) g3.rel ec rfl rfl ⟨_, upd_same, (RUs.set rv j rr).same ts⟩
            exact q3 μ3 σ _ g ((((s.on g1).on g2).on g3).on g)
          · exact False.elim q3
        · exact False.elim q3
      | _ => exact False.elim q3
    | _ => exact False.elim q3⟩⟩⟩
end
end ML

set_option maxHeartbeats 4000000
namespace ML
open PySem L2
section
variable {G : Gm} {Wx : WX} {μ μ' : Nat → Addr} {h h' : Hm} {H H' : Hp} {ρ : Ev} {σ : St}

/-! ### a def's promise -/
def spM (G : Gm) (n : Nat) (f : MF) : Sp := fun vs H Q E => ∃ μ h ws, HRel G μ h H ∧ RUs G.K μ h.length H ws vs ∧ vs.length = n ∧ Post G (PV G Q) E μ h H (f ws h)
/-- a def by its body: n parameters, N slots -/
def mfun (n N : Nat) (body : MS) : MF := fun ws h => if ws.length = n then match body (ws.map some ++ List.replicate (N - n) none) h with
    | some (.nx _ h1) => some (.ok .non h1)
    | some (.rt w h1) => some (.ok w h1)
    | some (.ex c fs _ h1) => some (.ex c fs h1)
    | _ => none
  else none
theorem st_start {ws : List U} {vs : List V} {n : Nat} {Ns : List Str} (rel : HRel G μ h H) (rs : RUs G.K μ h.length H ws vs) (hn : vs.length = n) : StOk G μ (ws.map some ++ List.replicate (Ns.length - n) none) h (L2.start Ns vs) H := by
  have hl := RUs.length rs
  refine ⟨rel, by simp [L2.start, ← hn, hl], fun i w e => ?_⟩
  by_cases hi : i < ws.length
  · rw [List.getElem?_append_left (by simpa using hi), List.getElem?_map] at e
    cases e1 : ws[i]? with
    | none => rw [e1] at e; cases e
    | some u =>
      rw [e1] at e
      cases e
      obtain ⟨v, ev, rv⟩ := RUs.get rs e1
      refine ⟨v, ?_, rv⟩
      unfold L2.start
      rw [List.getElem?_append_left (by simp [hl]; exact hi), List.getElem?_map, ev]
      rfl
  · rw [List.getElem?_append_right (by simp; omega)] at e
    rw [List.getElem?_replicate] at e
    split at e <;> cases e
section
variable {P : Program} {w : World} {K : PySem.W.Frag} {mg : Str → Option Value} {base : Heap}
abbrev FnM (P : Program) (w : World) (G : Gm) (mg : Str → Option Value) (base : Heap) (k : Nat) (f : Addr) (fd : FuncData) (ps : List Str) (m : MF) : Prop := FnOk P w G.K mg base (L2.CX P w) k f fd ps (spM G ps.length m)
/-- the wish of a def's body about exceptions -/
abbrev wDef (E : XK) : WX := fun cls d _ H => E cls d H
theorem fn_M {x qual : Str} {st : Stmt} {f : Addr} {fd : FuncData} {N ps : List Str} {k : Nat} {m : MS} (F : Fun G.K x qual st f fd) (S : FnScope N ps (defScope st))
    (hbody : ∀ (cdv : Value) (A : Around) (outer : List Env) (s : Shared) (H : Hp) (E : XK), Room k (A.deeper (PyProof.Rows.envOfC qual (defScope st) s.heap.objs.size f cdv)) →
      Takes (cxOf (L2.CX P w) P w G.K mg base N qual (defScope st) f cdv A outer s H E) (wDef E) →
      PSs (cxOf (L2.CX P w) P w G.K mg base N qual (defScope st) f cdv A outer s H E) (defBody st) (tS G (wDef E) m)) :
    FnM P w G mg base (k + 1) f fd ps (mfun ps.length N.length m) := by
  refine F.okX S (fun vs H Q E z => ?_) (fun cdv A outer s H vs Q E hr hsp => ⟨_, hbody cdv A outer s H E hr (takes_of rfl rfl rfl rfl), ?_⟩)
  · obtain ⟨_, _, _, _, _, hl, _⟩ := z
    exact hl
  · obtain ⟨μ, h, ws, rel, rs, hl, p⟩ := hsp
    refine ⟨μ, _, h, st_start rel rs hl, ?_⟩
    unfold mfun at p
    have hw : ws.length = ps.length := by rw [← RUs.length rs]; exact hl
    rw [if_pos hw] at p
    cases e : m (ws.map some ++ List.replicate (N.length - ps.length) none) h with
    | none => rw [e] at p; exact p
    | some r =>
      rw [e] at p
      cases r with
      | nx ρ' h1 => exact fun μ' σ' H' g s' => p μ' H' g _ rfl
      | rt w h1 => exact fun μ' H' v g r => p μ' H' g v r
      | bk ρ' h1 => exact False.elim p
      | ct ρ' h1 => exact False.elim p
      | ex c fs ρ' h1 => exact fun μ' σ' H' cls d g s' rx => p μ' H' cls d g rx
/-- a plainer function in its place -/
theorem FnM.to {k : Nat} {f : Addr} {fd : FuncData} {ps : List Str} {m m' : MF} (F : FnM P w G mg base k f fd ps m) (hm : ∀ ws h r, m' ws h = some r → m ws h = some r) : FnM P w G mg base k f fd ps m' :=
  FnOk.imp F fun vs H Q E ⟨μ, h, ws, rel, rs, hl, p⟩ => ⟨μ, h, ws, rel, rs, hl, by
    cases e : m' ws h with
    | none => rw [e] at p; exact False.elim p
    | some r => rw [hm ws h r e, ← e]; exact p⟩
end

/-! ### the call of a def -/
theorem Post.on {α : Type} {P : (Nat → Addr) → Hm → Hp → α → Prop} {E : XK} {r : Option (Rz α)} (p : Post G P E μ h H r) (g : Gr G μ h H μ' h' H') : Post G P E μ' h' H' r := by
  cases r with
  | none => exact p
  | some r =>
    cases r with
    | ok a h1 => exact fun μ1 H1 g1 => p μ1 H1 (g.trans g1)
    | ex c fs h1 => exact fun μ1 H1 cls d g1 rx => p μ1 H1 cls d (g.trans g1) rx
/-- as many arguments -/
def AL (m : MA) (n : Nat) : Prop := ∀ ρ h ws h', m ρ h = some (.ok ws h') → ws.length = n
theorem al_nil : AL mNil 0 := fun ρ h ws h' e => by
  unfold mNil at e
  cases e
  rfl
theorem al_cons {e : ME} {es : MA} {n : Nat} (a : AL es n) : AL (mCons e es) (n + 1) := fun ρ h ws h' q => by
  unfold mCons at q
  cases e1 : e ρ h with
  | none => rw [e1] at q; cases q
  | some r =>
    rw [e1] at q
    cases r with
    | ex c fs h1 => cases q
    | ok w h1 =>
      simp only [bnd_ok] at q
      cases e2 : es ρ h1 with
      | none => rw [e2] at q; cases q
      | some r2 =>
        rw [e2] at q
        cases r2 with
        | ex c fs h2 => cases q
        | ok ws2 h2 =>
          simp only [bnd_ok] at q
          cases q
          simp [a ρ h1 ws2 _ e2]
theorem Post.withEq {α : Type} {P : (Nat → Addr) → Hm → Hp → α → Prop} {E : XK} {r : Option (Rz α)} (p : Post G P E μ h H r) : Post G (fun μ' h' H' a => P μ' h' H' a ∧ r = some (.ok a h')) E μ h H r := by
  cases r with
  | none => exact p
  | some r =>
    cases r with
    | ok a h' => exact fun μ' H' g => ⟨p μ' H' g, rfl⟩
    | ex c fs h' => exact p
theorem w_call {n : Nat} {f : MF} {es : MA} (a : AL es n) : ∀ σ H Q, tE G Wx (mCB f es) σ H Q → tCallS (spM G n f) (WE Wx) (tA G Wx es) σ H Q := fun σ H Q ⟨μ, ρ, h, s, p⟩ =>
  ⟨μ, ρ, h, s, (Post.bnd p).withEq.mono fun μ1 h1 H1 ws g ⟨q, eq⟩ vs rs => ⟨μ1, h1, ws, g.rel, rs, (RUs.length rs).trans (a ρ h ws h1 eq), q⟩⟩

def fput (f : Str) (w : U) : List (Str × U) → List (Str × U)
  | [] => [(f, w)]
  | (g, u) :: fs => if g = f then (f, w) :: fs else (g, u) :: fput f w fs
theorem RFs.put {K : PySem.W.Frag} {n : Nat} {f : Str} {w : U} {v : V} (r : RU K μ n H w v) : ∀ {fs : List (Str × U)} {gs : List (Str × V)}, RFs K μ n H fs gs → RFs K μ n H (fput f w fs) (putF f v gs)
  | [], gs, q => by
    simp only [RFs] at q
    subst q
    show RFs K μ n H [(f, w)] [(f, v)]
    simp only [RFs]
    exact ⟨v, [], rfl, r, rfl⟩
  | (g, u) :: fs, gs, q => by
    simp only [RFs] at q
    obtain ⟨y, ys, rfl, r1, rs⟩ := q
    unfold fput putF
    by_cases hg : g = f
    · rw [if_pos hg, if_pos hg]
      subst hg
      simp only [RFs]
      exact ⟨v, ys, rfl, r, rs⟩
    · rw [if_neg hg, if_neg hg]
      simp only [RFs]
      exact ⟨y, _, rfl, r1, RFs.put r rs⟩
theorem RFs.length {K : PySem.W.Frag} {n : Nat} : ∀ {fs : List (Str × U)} {gs : List (Str × V)}, RFs K μ n H fs gs → gs.length = fs.length
  | [], gs, q => by simp only [RFs] at q; subst q; rfl
  | (g, u) :: fs, gs, q => by
    simp only [RFs] at q
    obtain ⟨y, ys, rfl, r1, rs⟩ := q
    simp [RFs.length rs]
/-! ### attributes of instances -/
def fget (f : Str) : List (Str × U) → Option U
  | [] => none
  | (g, w) :: fs => if f = g then some w else fget f fs
theorem fget_ok {K : PySem.W.Frag} {n : Nat} {f : Str} : ∀ {fs : List (Str × U)} {gs : List (Str × V)} {w : U}, fget f fs = some w → RFs K μ n H fs gs → ∃ v, gs.lookup f = some v ∧ RU K μ n H w v
  | [], gs, w, e, r => by cases e
  | (g, u) :: fs, gs, w, e, r => by
    simp only [RFs] at r
    obtain ⟨y, ys, rfl, r1, rs⟩ := r
    unfold fget at e
    rw [List.lookup_cons]
    by_cases hg : f = g
    · rw [if_pos hg] at e
      cases e
      subst hg
      simp only [beq_self_eq_true]
      exact ⟨y, rfl, r1⟩
    · rw [if_neg hg] at e
      have : (f == g) = false := by simpa using hg
      rw [this]
      exact fget_ok e rs
theorem fget_none {K : PySem.W.Frag} {n : Nat} {f : Str} : ∀ {fs : List (Str × U)} {gs : List (Str × V)}, fget f fs = none → RFs K μ n H fs gs → gs.lookup f = none
  | [], gs, e, r => by simp only [RFs] at r; subst r; rfl
  | (g, u) :: fs, gs, e, r => by
    simp only [RFs] at r
    obtain ⟨y, ys, rfl, r1, rs⟩ := r
    unfold fget at e
    rw [List.lookup_cons]
    by_cases hg : f = g
    · rw [if_pos hg] at e
      cases e
    · rw [if_neg hg] at e
      have : (f == g) = false := by simpa using hg
      rw [this]
      exact fget_none e rs


/-! ### methods and makers, what is raised wished for at the caller's slots -/
section
variable {X : Cx} {CX : CXT} {k : Nat} {f C : Addr} {fd : FuncData} {ps : List Str} {sp : Sp} {E : St → XK} {x m : Str} {p pos apos : Pos} {e o : Expr} {es : List Expr} {ta : TE} {t : TA}
def tMethS (C : Addr) (m : Str) (sp : Sp) (E : St → XK) (ta : TE) (t : TA) : TE := fun σ H Q => ta σ H fun x H1 => ∃ a dx fs, x = .ref a ∧ H1 a = some (.ins C dx fs) ∧ fs.lookup m = none ∧
  t σ H1 fun vs H2 => sp (x :: vs) H2 Q (E σ)
theorem pe_methS {pl : Sem Bool} (he : PE X o ta) (c : Cls X.K C) (hm : Meth X.K C m f) (F : FnOk X.prog X.w X.K X.mg X.base CX k f fd ps sp) (hr : Room k X.A) (hb : Binds X.K fd ps []) (hx : ∀ σ, PassesAt CX X σ (E σ)) (ha : PA X (e :: es) t)
    (hst : starEach (e :: es) X.env = (false, eval e X.env) :: starEach es X.env := by rfl) (hpl : (backTo pos (starEach es X.env)).any (·.1) = false := by rfl)
    (ht : eval (.Call (.Attribute o m apos) (e :: es) [] pos) X.env = (do
      let ov ← eval o X.env
      standAt apos.atName
      let (f, first) ← holding [ov] (getMethod ov m pl)
      callWith pos f first (backTo pos (starEach (e :: es) X.env)) (backToKw pos (keywordEach [] X.env))) := by rfl) :
    PE X (.Call (.Attribute o m apos) (e :: es) [] pos) (tMethS C m sp E ta t) := by
  refine ⟨fun pins s σ H Q I h => ?_⟩
  refine PySem.W.methodCall_KW (pl := pl) (thn (he.run pins s σ H _ I h) fun u s1 ⟨x, H1, I1, rx, a, dx, fs, ex, ea, l, q⟩ => ?_) ht
  subst ex
  obtain rfl : u = Value.ref a := rx
  refine getmeth_ok I1 ea c hm l ?_
  refine PySem.W.callWith_K (first := [.ref a]) (h₀ := X.base) I.ok.mod.kin hm.kp (thn (ha.run pos pins s1 σ H1 _ I1 q) fun us s2 ⟨vs, H2, I2, r, q2⟩ => ⟨I2.kIn, ?_⟩) hst hpl
  exact run_fnS (us := .ref a :: us) (vs := .ref a :: vs) F hr hb (hx σ) I2 (.cons rfl r) q2
theorem pe_methS0 {pl : Sem Bool} (he : PE X o ta) (c : Cls X.K C) (hm : Meth X.K C m f) (F : FnOk X.prog X.w X.K X.mg X.base CX k f fd ps sp) (hr : Room k X.A) (hb : Binds X.K fd ps []) (hx : ∀ σ, PassesAt CX X σ (E σ))
    (ht : eval (.Call (.Attribute o m apos) [] [] pos) X.env = (do
      let ov ← eval o X.env
      standAt apos.atName
      let (f, first) ← holding [ov] (getMethod ov m pl)
      callWith pos f first (backTo pos (starEach [] X.env)) (backToKw pos (keywordEach [] X.env))) := by rfl) :
    PE X (.Call (.Attribute o m apos) [] [] pos) (tMethS C m sp E ta tNil) := by
  refine ⟨fun pins s σ H Q I h => ?_⟩
  refine PySem.W.methodCall_KW (pl := pl) (thn (he.run pins s σ H _ I h) fun u s1 ⟨x, H1, I1, rx, a, dx, fs, ex, ea, l, q⟩ => ?_) ht
  subst ex
  obtain rfl : u = Value.ref a := rx
  refine getmeth_ok I1 ea c hm l ?_
  exact PySem.W.callWith_K0 (first := [.ref a]) I1.kIn hm.kp (run_fnS (us := [.ref a]) (vs := [.ref a]) F hr hb (hx σ) I1 (.cons rfl .nil) q)
def tMakeS (C : Addr) (sp : Sp) (E : St → XK) (t : TA) : TE := fun σ H Q => t σ H fun vs H1 => ∀ x dx, H1 x = none → H1 dx = none → dx ≠ x →
  sp (.ref x :: vs) (upd (upd H1 dx (.own x)) x (.ins C dx [])) (fun v H2 => v = .non ∧ Q (.ref x) H2) (E σ)
theorem run_makeS {pins : List (Addr × Obj)} {σ : St} {H : Hp} {s : Shared} {Q : VK} {us : List Value} {vs : List V} (M : Mk X.K C f) (F : FnOk X.prog X.w X.K X.mg X.base CX k f fd ps sp) (hr : Room (k + 1) X.A) (hb : Binds X.K fd ps [])
    (hx : PassesAt CX X σ (E σ)) (I : Inv X pins σ H s) (r : Vals vs us)
    (h : ∀ x dx, H x = none → H dx = none → dx ≠ x → sp (.ref x :: vs) (upd (upd H dx (.own x)) x (.ins C dx [])) (fun v H2 => v = .non ∧ Q (.ref x) H2) (E σ)) :
    wpAny (model X.prog X.w) X.A (call (.ref C) us) (EP X pins σ Q) X.xe s := by
  have hq := h (s.heap.objs.size + 1) s.heap.objs.size (I.hok.fresh (Nat.le_succ _)) (I.hok.fresh (Nat.le_refl _)) (Nat.ne_of_lt (Nat.lt_succ_self _))
  have I2 := Inv.made (C := C) I
  have r2 : Vals (V.ref (s.heap.objs.size + 1) :: vs) (Value.ref (s.heap.objs.size + 1) :: us) := .cons rfl r
  have hl : (Value.ref (s.heap.objs.size + 1) :: us).length = ps.length := by
    have e := r2.length
    rw [F.len _ _ _ _ hq] at e
    exact e.symm
  have b := hb _ (Value.ref (s.heap.objs.size + 1) :: us) I2.kIn (by rw [List.append_nil]; exact hl)
  rw [List.append_nil] at b
  refine wpAny_call (make_map (f := f) I.kIn M.makes M.init (beq_iff_eq.mp M.fn) (codeAny_mono (F.run _ X.stack _ _ ⟨Value.ref (s.heap.objs.size + 1) :: us, []⟩ (Value.ref (s.heap.objs.size + 1) :: us) _ _ (E σ) (hr.make C us [])
    (I2.env0.make C us []) b r2 hq) fun r s' hq' => ?_))
  cases r with
  | error e => exact hx pins _ _ e s' I2 hq'
  | ok fl =>
    cases fl with
    | ret u =>
      obtain ⟨v, H', I3, rv, ev, q3⟩ := I2.after hq'
      subst ev
      exact ⟨rv, ⟨V.ref (s.heap.objs.size + 1), H', I3, rfl, q3⟩⟩
    | next => exact False.elim hq'
    | brk => exact False.elim hq'
    | cont => exact False.elim hq'
theorem pe_makeS (M : Mk X.K C f) (F : FnOk X.prog X.w X.K X.mg X.base CX k f fd ps sp) (hr : Room (k + 1) X.A) (hg : Gl X x) (hm : X.mg x = some (.ref C)) (hb : Binds X.K fd ps []) (hx : ∀ σ, PassesAt CX X σ (E σ))
    (ha : PA X (e :: es) t) (hdb : (x == ("__debug__" : Str)) = false := by decide) (he : starEach (e :: es) X.env = (false, eval e X.env) :: starEach es X.env := by rfl) (hpl : (backTo pos (starEach es X.env)).any (·.1) = false := by rfl) :
    PE X (.Call (.Name x p) (e :: es) [] pos) (tMakeS C sp E t) := by
  refine ⟨fun pins s σ H Q I h => ?_⟩
  refine wpAny_Call_Name_kw (ld_glob I hg hm ?_ hdb)
  refine PySem.W.callWith_K (h₀ := X.base) I.ok.mod.kin M.kp (thn (ha.run pos pins s σ H _ I h) fun us s1 ⟨vs, H1, I1, r, q⟩ => ⟨I1.kIn, ?_⟩) he hpl
  exact run_makeS M F hr hb (hx σ) I1 r q
theorem pe_callS0 (F : FnOk X.prog X.w X.K X.mg X.base CX k f fd ps sp) (hr : Room k X.A) (hg : Gl X x) (hm : X.mg x = some (.ref f)) (hk : PySem.W.keepIn X.K (.ref f) = true) (hb : Binds X.K fd ps []) (hx : ∀ σ, PassesAt CX X σ (E σ))
    (hdb : (x == ("__debug__" : Str)) = false := by decide) : PE X (.Call (.Name x p) [] [] pos) (tCallS sp E tNil) := by
  refine ⟨fun pins s σ H Q I h => ?_⟩
  refine wpAny_Call_Name_kw (ld_glob I hg hm ?_ hdb)
  exact PySem.W.callWith_K0 I.kIn hk (run_fnS (us := []) F hr hb (hx σ) I .nil h)
end
/-! ### e.f of an instance; self.f = e; the call of a method; C(..) -/
/-- the classes whose instances' f is read from their own dict -/
def AtC (G : Gm) (f : Str) (ok : Nat → Bool) : Prop := ∀ c, ok c = true → Cls G.K (G.ca c) ∧ NoAttr G.K (G.ca c) f
def mAttr (f : Str) (ok : Nat → Bool) (o : ME) : ME := fun ρ h => bnd (o ρ h) fun x h1 => match x with
  | .ref i => match h1[i]? with
    | some (.ins c fs) => if ok c = true then match fget f fs with
        | some w => some (.ok w h1)
        | none => none
      else none
    | _ => none
  | _ => none
theorem w_attr {f : Str} {ok : Nat → Bool} {o : ME} (a : AtC G f ok) : ∀ σ H Q, tE G Wx (mAttr f ok o) σ H Q → tFld G.K (tE G Wx o) f σ H Q := fun σ H Q ⟨μ, ρ, h, s, p⟩ =>
  ⟨μ, ρ, h, s, (Post.bnd p).mono fun μ1 h1 H1 wx g q x rx => by
    cases wx with
    | ref i =>
      simp only [RU] at rx
      obtain ⟨hi, rfl⟩ := rx
      simp only at q
      split at q
      · rename_i c fs ec
        split at q
        · rename_i hc
          split at q
          · rename_i w ew
            obtain ⟨dx, gs, ea, rf⟩ := g.rel.cell i _ ec
            obtain ⟨v, ev, rv⟩ := fget_ok ew rf
            obtain ⟨c1, c2⟩ := a c hc
            exact ⟨_, _, dx, gs, v, rfl, ea, c1, c2, ev, Post.ok g.rel q _ rv⟩
          · exact False.elim q
        · exact False.elim q
      · exact False.elim q
    | _ => exact False.elim q⟩
def mSetAt (f : Str) (ok : Nat → Bool) (o e : ME) : MS := fun ρ h => bndS ρ (e ρ h) fun w h1 => bndS ρ (o ρ h1) fun x h2 => match x with
  | .ref i => match h2[i]? with
    | some (.ins c fs) => if (ok c && decide (fs.length < 900)) = true then some (.nx ρ (h2.set i (.ins c (fput f w fs)))) else none
    | _ => none
  | _ => none
theorem w_setAt {f : Str} {ok : Nat → Bool} {o e : ME} (a : AtC G f ok) : ∀ D σ H, tS G Wx (mSetAt f ok o e) D σ H → sFld G.K (tE G Wx o) (tE G Wx e) f D σ H := fun D σ H ⟨μ, ρ, h, s, p⟩ =>
  ⟨μ, ρ, h, s, (PostS.bnd s p).mono fun μ1 h1 H1 w g1 q1 v rv => ⟨μ1, ρ, h1, s.on g1, (PostS.bnd (s.on g1) q1).mono fun μ2 h2 H2 wx g2 q2 x rx => by
    have rv := g2.ru rv
    cases wx with
    | ref i =>
      simp only [RU] at rx
      obtain ⟨hi, rfl⟩ := rx
      simp only at q2
      split at q2
      · rename_i c fs ec
        split at q2
        · rename_i hc
          simp only [Bool.and_eq_true, decide_eq_true_eq] at hc
          obtain ⟨dx, gs, ea, rf⟩ := g2.rel.cell i _ ec
          obtain ⟨c1, c2⟩ := a c hc.1
          refine ⟨_, _, dx, gs, rfl, ea, c1, c2, by rw [RFs.length rf]; omega, ?_⟩
          have ts : TS0 G.K H2 (upd H2 (μ2 i) (.ins (G.ca c) dx (putF f v gs))) := TS0.write ea rfl
          have g := Gr.write (o := .ins (G.ca c) dx (putF f v gs)) (d := .ins c (fput f w fs)) g2.rel ec rfl rfl ⟨dx, _, upd_same, RFs.mono (fun _ _ => rfl) (Nat.le_refl _) ts _ _ (RFs.put rv rf)⟩
          exact q2 μ2 σ _ g (((s.on g1).on g2).on g)
        · exact False.elim q2
      · exact False.elim q2
    | _ => exact False.elim q2⟩⟩
/-- o.m(..): o an instance of the class number c; f the method's function -/
def mMeth (c : Nat) (m : Str) (f : MF) (o : ME) (es : MA) : ME := fun ρ h => bnd (o ρ h) fun x h1 => match x with
  | .ref i => match h1[i]? with
    | some (.ins c' fs) => if c' = c ∧ fget m fs = none then bnd (es ρ h1) fun ws h2 => f (.ref i :: ws) h2 else none
    | _ => none
  | _ => none
theorem w_meth {c n : Nat} {m : Str} {f : MF} {o : ME} {es : MA} (a : AL es n) : ∀ σ H Q, tE G Wx (mMeth c m f o es) σ H Q → tMethS (G.ca c) m (spM G (n + 1) f) (WE Wx) (tE G Wx o) (tA G Wx es) σ H Q := fun σ H Q ⟨μ, ρ, h, s, p⟩ =>
  ⟨μ, ρ, h, s, (Post.bnd p).mono fun μ1 h1 H1 wx g q x rx => by
    cases wx with
    | ref i =>
      have rx0 := rx
      simp only [RU] at rx
      obtain ⟨hi, rfl⟩ := rx
      simp only at q
      split at q
      · rename_i c' fs ec
        split at q
        · rename_i hc
          obtain ⟨rfl, hm⟩ := hc
          obtain ⟨dx, gs, ea, rf⟩ := g.rel.cell i _ ec
          refine ⟨_, dx, gs, rfl, ea, fget_none hm rf, μ1, ρ, h1, s.on g, (Post.bnd q).withEq.mono fun μ2 h2 H2 ws g2 ⟨q2, eq⟩ vs rs => ?_⟩
          exact ⟨μ2, h2, .ref i :: ws, g2.rel, RUs.cons (g2.ru rx0) rs, by simp [RUs.length rs, a _ _ _ _ eq], q2⟩
        · exact False.elim q
      · exact False.elim q
    | _ => exact False.elim q⟩
theorem w_meth0 {c : Nat} {m : Str} {f : MF} {o : ME} : ∀ σ H Q, tE G Wx (mMeth c m f o mNil) σ H Q → tMethS (G.ca c) m (spM G 1 f) (WE Wx) (tE G Wx o) tNil σ H Q := fun σ H Q z => by
  obtain ⟨μ, ρ, h, s, p⟩ := w_meth al_nil σ H Q z
  exact ⟨μ, ρ, h, s, p.mono fun μ' h' H' w g q v r => by
    obtain ⟨a, dx, fs, ea, e2, e3, k⟩ := q v r
    exact ⟨a, dx, fs, ea, e2, e3, w_nil _ _ _ k⟩⟩
theorem w_call0 {f : MF} : ∀ σ H Q, tE G Wx (mCB f mNil) σ H Q → tCallS (spM G 0 f) (WE Wx) tNil σ H Q := fun σ H Q z => w_nil _ _ _ (w_call al_nil σ H Q z)
/-- C(..): the class number c, f its __init__ -/
def mkEnd (n : Nat) (w : U) (h2 : Hm) : Option (Rz U) := match w with
  | .non => some (.ok (.ref n) h2)
  | _ => none
def mMake (c : Nat) (f : MF) (es : MA) : ME := fun ρ h => bnd (es ρ h) fun ws h1 => bnd (f (.ref h1.length :: ws) (h1 ++ [.ins c []])) (mkEnd h1.length)
theorem w_make {c n : Nat} {f : MF} {es : MA} (a : AL es n) : ∀ σ H Q, tE G Wx (mMake c f es) σ H Q → tMakeS (G.ca c) (spM G (n + 1) f) (WE Wx) (tA G Wx es) σ H Q := fun σ H Q ⟨μ, ρ, h, s, p⟩ =>
  ⟨μ, ρ, h, s, (Post.bnd p).withEq.mono fun μ1 h1 H1 ws g ⟨q, eq⟩ vs rs x dx nx nd ne => by
    have g1 : Gr G μ1 h1 H1 μ1 h1 (upd H1 dx (.own x)) := Gr.fresh g.rel nd
    have nx' : upd H1 dx (.own x) x = none := by rw [upd_ne ne.symm]; exact nx
    have g2 := Gr.new (o := .ins (G.ca c) dx []) (c := .ins c []) g1.rel nx' ⟨dx, [], upd_same, by simp only [RFs]⟩
    have gg := g1.trans g2
    refine ⟨_, h1 ++ [.ins c []], .ref h1.length :: ws, gg.rel, RUs.cons (by simp only [RU]; exact ⟨by simp, by rw [nu_new]⟩) (gg.rus rs), by simp [RUs.length rs, a _ _ _ _ eq], ?_⟩
    have q : Post G (PV G Q) (fun cls d H' => Wx cls d σ H') (nu μ1 h1.length x) (h1 ++ [.ins c []]) (upd (upd H1 dx (.own x)) x (.ins (G.ca c) dx [])) (bnd (f (.ref h1.length :: ws) (h1 ++ [.ins c []])) (mkEnd h1.length)) := by
      have q' : Post G (PV G Q) (fun cls d H' => Wx cls d σ H') μ1 h1 H1 (bnd (f (.ref h1.length :: ws) (h1 ++ [.ins c []])) (mkEnd h1.length)) := q
      exact q'.on gg
    have q2 := Post.bnd q
    cases er : f (.ref h1.length :: ws) (h1 ++ [.ins c []]) with
    | none => rw [er] at q2; exact q2
    | some r =>
      rw [er] at q2
      cases r with
      | ok w h3 =>
        intro μ' H' g' v rv
        have q3 := q2 μ' H' g'
        cases w with
        | non =>
          simp only [RU] at rv
          subst rv
          refine ⟨rfl, Post.ok g'.rel q3 _ ?_⟩
          simp only [RU]
          have hl : h1.length < (h1 ++ [Cell.ins c []]).length := by simp
          exact ⟨Nat.lt_of_lt_of_le hl g'.len, by rw [g'.mu _ hl, nu_new]⟩
        | _ => exact False.elim q3
      | ex c fs h3 => exact q2⟩

/-! ### range -/
def rItems (lo : Int) (n : Nat) : List U := (List.range n).map fun (k : Nat) => .int (lo + (k : Int))
def iR1 (e : ME) : MI := fun ρ h => bnd (e ρ h) fun w h1 => match w with
  | .int j => if (decide (-1000000000 ≤ j) && decide (j ≤ 1000000000)) = true then some (.ok (rItems 0 j.toNat, fun _ => True) h1) else none
  | _ => none
theorem gives_range {lo : Int} {n : Nat} : Gives G (Itr lo n) (rItems lo n) (fun _ => True) μ h H := fun j μ2 h2 H2 gr ck => by
  refine ⟨fun hj => by
    show n ≤ j
    simpa [rItems] using hj, fun w hw => ?_⟩
  unfold rItems at hw
  rw [List.getElem?_map] at hw
  by_cases hj : j < n
  · rw [List.getElem?_range hj] at hw
    cases hw
    refine ⟨hj, fun x H' y => ?_⟩
    obtain ⟨rfl, rfl⟩ := y
    exact ⟨Gr.refl gr.rel, rfl⟩
  · rw [List.getElem?_eq_none (by simpa using hj)] at hw
    cases hw
theorem w_iR1 {e : ME} : ∀ σ H R, tI G Wx (iR1 e) σ H R → iRng1 (tCons (tE G Wx e) tNil) σ H R := fun σ H R ⟨μ, ρ, h, s, p⟩ =>
  ⟨μ, ρ, h, s, (Post.bnd p).mono fun μ1 h1 H1 w g q v r => by
    cases w with
    | int j =>
      simp only [RU] at r
      subst r
      simp only at q
      split at q
      · rename_i hc
        simp only [Bool.and_eq_true, decide_eq_true_eq] at hc
        exact ⟨j, rfl, by omega, by omega, q μ1 H1 (Gr.refl g.rel) _ gives_range⟩
      · exact False.elim q
    | _ => exact False.elim q⟩
def iR2 (a b : ME) : MI := fun ρ h => bnd (a ρ h) fun x h1 => bnd (b ρ h1) fun y h2 => match x, y with
  | .int i, .int j => if ((decide (-1000000000 ≤ i) && decide (i ≤ 1000000000)) && (decide (-1000000000 ≤ j) && decide (j ≤ 1000000000))) = true then some (.ok (rItems i (j - i).toNat, fun _ => True) h2) else none
  | _, _ => none
theorem w_iR2 {a b : ME} : ∀ σ H R, tI G Wx (iR2 a b) σ H R → iRng2 (tCons (tE G Wx a) (tCons (tE G Wx b) tNil)) σ H R := fun σ H R ⟨μ, ρ, h, s, p⟩ =>
  ⟨μ, ρ, h, s, (Post.bnd p).mono fun μ1 h1 H1 wx g1 q1 x rx => ⟨μ1, ρ, h1, s.on g1, (Post.bnd q1).mono fun μ2 h2 H2 wy g2 q2 y ry => by
    cases wx with
    | int i =>
      cases wy with
      | int j =>
        simp only [RU] at rx ry
        subst rx ry
        simp only at q2
        split at q2
        · rename_i hc
          simp only [Bool.and_eq_true, decide_eq_true_eq] at hc
          exact ⟨i, j, rfl, by omega, q2 μ2 H2 (Gr.refl g2.rel) _ gives_range⟩
        · exact False.elim q2
      | _ => exact False.elim q2
    | _ => exact False.elim q2⟩⟩
/-! ### the signs of a text -/
def sItems (x : Str) : List U := x.cps.toList.map fun c => .str ⟨#[c]⟩

/-! ### while -/
def whileN (c : MT) (b : MS) : Nat → MS
  | 0, _, _ => none
  | n + 1, ρ, h => bndS ρ (c ρ h) fun k h1 => if k = true then match b ρ h1 with
      | some (.nx ρ2 h2) => whileN c b n ρ2 h2
      | some (.ct ρ2 h2) => whileN c b n ρ2 h2
      | some (.bk ρ2 h2) => some (.nx ρ2 h2)
      | r => r
    else some (.nx ρ h1)
open Classical in
noncomputable def mWhile (c : MT) (b : MS) : MS := fun ρ h => if z : ∃ n, whileN c b n ρ h ≠ none then whileN c b (choose z) ρ h else none
theorem w_while {c : MT} {b : MS} : ∀ D σ H, tS G Wx (mWhile c b) D σ H → tWhile (tT G Wx c) (tS G Wx b) D σ H := fun D σ H ⟨μ, ρ, h, s, p⟩ => by
  unfold mWhile at p
  split at p
  · rename_i z
    generalize Classical.choose z = n at p
    refine ⟨fun m σ H => ∃ μ ρ h, StOk G μ ρ h σ H ∧ PostS G Wx D μ h H (whileN c b m ρ h), ⟨n, μ, ρ, h, s, p⟩, ?_⟩
    rintro m σ H ⟨μ, ρ, h, s, p⟩
    cases m with
    | zero => exact False.elim p
    | succ m =>
      unfold whileN at p
      refine ⟨μ, ρ, h, s, (PostS.bnd s p).mono fun μ1 h1 H1 k g q => ?_⟩
      cases k with
      | false =>
        rw [if_neg Bool.false_ne_true] at q ⊢
        exact q μ1 σ H1 (Gr.refl g.rel) (s.on g)
      | true =>
        rw [if_pos rfl] at q ⊢
        refine ⟨fun σ' H' => ∃ μ ρ h, StOk G μ ρ h σ' H' ∧ PostS G Wx D μ h H' (whileN c b m ρ h), fun σ' H' z => ⟨m, Nat.lt_succ_self m, z⟩, μ1, ρ, h1, s.on g, ?_⟩
        cases e2 : b ρ h1 with
        | none => rw [e2] at q; exact q
        | some r =>
          rw [e2] at q
          cases r with
          | nx ρ2 h2 => exact fun μ3 σ3 H3 g3 s3 => ⟨μ3, ρ2, h2, s3, PostS.on q g3⟩
          | ct ρ2 h2 => exact fun μ3 σ3 H3 g3 s3 => ⟨μ3, ρ2, h2, s3, PostS.on q g3⟩
          | bk ρ2 h2 => exact q
          | rt w h2 => exact q
          | ex c fs ρ2 h2 => exact q
  · exact False.elim p
theorem whileN_mono {c : MT} {b : MS} : ∀ {n : Nat} {ρ : Ev} {h : Hm} {r : Sz}, whileN c b n ρ h = some r → whileN c b (n + 1) ρ h = some r
  | 0, _, _, _, e => by cases e
  | n + 1, ρ, h, r, e => by
    unfold whileN at e ⊢
    cases ec : c ρ h with
    | none => rw [ec] at e; cases e
    | some rc =>
      rw [ec] at e
      cases rc with
      | ex c1 fs h1 => exact e
      | ok k h1 =>
        simp only [bndS_ok] at e ⊢
        cases k with
        | false => exact e
        | true =>
          simp only [if_true] at e ⊢
          cases eb : b ρ h1 with
          | none => rw [eb] at e; cases e
          | some rb =>
            rw [eb] at e
            cases rb with
            | nx ρ2 h2 => exact whileN_mono e
            | ct ρ2 h2 => exact whileN_mono e
            | bk ρ2 h2 => exact e
            | rt w h2 => exact e
            | ex c fs ρ2 h2 => exact e
theorem whileN_le {c : MT} {b : MS} {n m : Nat} {ρ : Ev} {h : Hm} {r : Sz} (hl : n ≤ m) (e : whileN c b n ρ h = some r) : whileN c b m ρ h = some r := by
  induction hl with
  | refl => exact e
  | step _ ih => exact whileN_mono ih
theorem mWhile_eq {c : MT} {b : MS} {n : Nat} {ρ : Ev} {h : Hm} {r : Sz} (e : whileN c b n ρ h = some r) : mWhile c b ρ h = some r := by
  have z : ∃ n, whileN c b n ρ h ≠ none := ⟨n, by rw [e]; simp⟩
  unfold mWhile
  rw [dif_pos z]
  have q := Classical.choose_spec z
  cases e2 : whileN c b (Classical.choose z) ρ h with
  | none => exact absurd e2 q
  | some r2 =>
    rcases Nat.le_total n (Classical.choose z) with l | l
    · rw [whileN_le l e] at e2
      exact e2.symm
    · rw [whileN_le l e2] at e
      exact e
end
end ML

set_option maxHeartbeats 4000000
namespace ML
open PySem PySem.Spec PyProof.Rows L2

/-! ### super().__init__(e) in the __init__ of an own error over ValueError -/
section
variable {prog : Program} {w : World} {A : Around} {E : Value → Shared → Prop} {h : Heap} {g : Array GenState} {d : Drawn} {t : Nat} {os : OsState}
variable {nm q : Str} {C N : Addr} {bs bm : List Value} {hdct : Bool} {sn : List Str} {sub : List Value} {ab : Bool} {col : Option Bool} {dd : Option Addr} {k0 k1 k2 k3 k5 : Option Value}
theorem call_bwV {u e t0 : Addr} {rest : List Value} {Q : Value → Shared → Prop}
    (hC : h.get? C = some (excClassObj nm q C N bs bm hdct sn sub ab col dd k0 k1 k2 k3 k5 "ValueError.__new__")) (he : h.get? e = some (HandSPX.excO C t0)) (hu : h.get? u = some (PySem.W.kxs_mw "ValueError.__init__" e)) (hrest : rest.length ≤ sizeLine)
    (hq : ∀ h' t1, (∀ b o, b ≠ e → h.get? b = some o → h'.get? b = some o) → h'.get? e = some (HandSPX.excO C t1) → Q .none ⟨h', g, d, t, os⟩) :
    wpAny (model prog w) A (call (.ref u) rest) Q E ⟨h, g, d, t, os⟩ := by
  refine wpAny_call (codeAny_of_tree ?_)
  show wpAny _ A.in1 (callAny (.ref u) ⟨rest, []⟩) _ _ _
  simp only [callAny]
  refine wpAny_bind (wpAny_load hu ?_)
  simp only [PySem.W.kxs_mw, show (Value.type "method-wrapper" == Value.type "method" || Value.type "method-wrapper" == Value.type "builtin_function_or_method" || Value.type "method-wrapper" == Value.type "method-wrapper") = true by decide, if_true]
  refine W.KFB.if_so (by decide) ?_
  refine wpAny_bind (PySem.W.check_bound_init F.excBase_ValueError.toExcCallFacts hC he rfl ?_)
  refine wpAny_bind (wpAny_pure (wpAny_pure ?_))
  refine ⟨Code.quiet_builtin _ (by decide +kernel), codeAny_builtin F.excBase_ValueError.initEntry ?_⟩
  rw [Around.under_plainId F.excBase_ValueError.init.plain _]
  wp_walk
  refine hq _ h.objs.size (fun b o hb ho => ?_) ?_
  · rw [Heap.get?_update_other _ _ (Ne.symm hb)]
    exact Heap.get?_push_of_some _ ho
  · rw [Heap.get?_update_self _ (Heap.get?_push_of_some _ he) rfl]
    rfl
end

abbrev envS (qual : Str) (scope : Scope) (L a : Addr) (cd : Value) (cc : Addr) : Env := PySem.W.envX qual scope L a cd [("__class__", cc)]
/-- the context of such a body -/
def cxS (CX : CXT) (P : Program) (w : World) (K : PySem.W.Frag) (mg : Str → Option Value) (base : Heap) (N : List Str) (qual : Str) (scope : Scope) (f : Addr) (cd : Value) (cc : Addr) (A : Around) (outer : List Env) (s : Shared) (H : Hp) (E : XK) : Cx where
  prog := P
  w := w
  K := K
  mg := mg
  base := base
  A := A.deeper (envS qual scope s.heap.objs.size f cd cc)
  N := N
  s_0 := s
  H_0 := H
  env := envS qual scope s.heap.objs.size f cd cc
  outer := outer
  stack := envS qual scope s.heap.objs.size f cd cc :: outer
  ex := []
  calm := true
  fn := fun _ => false
  pn := []
  xe := fun e s' => wpAny (model P w) (A.deeper (envS qual scope s.heap.objs.size f cd cc)) (leaving (envS qual scope s.heap.objs.size f cd cc) e) (fun _ s'' => CX outer H s E e s'') (fun e' s'' => CX outer H s E e' s'') s'

/-- what the written part says of such a class and its __init__ -/
structure SupTxt (K : PySem.W.Frag) (mg : Str → Option Value) (C f cc cda : Addr) (qual : Str) : Prop where
  ox : OexC K C
  iC : PySem.W.findIn K (.ref C) "__init__" = some (some (.ref f))
  tI : PySem.W.typeIn K (.ref f) = some (.type "function")
  code : ∃ ccl cdd vs ccs tf, K.lookup cda = some ⟨ccl, cdd, .fields vs, ccs⟩ ∧ vs[2]? = some (.str "/claim/cut.py" tf)
  codeQ : PySem.W.codeIn K (.ref cda) qual = true
  cell : ∃ cl cld csl, K.lookup cc = some ⟨cl, cld, .cell (some (.ref C)), csl⟩
  sup : PySem.W.ks_superIn K C C "__init__" = some (some (.builtin "ValueError.__init__"))
  sub : PySem.W.subIn K (.ref C) (.type "ValueError") = some true
  mro : PySem.W.mroIn K C (.ref C) = some true
  tp : PySem.W.nsIn K cStatics "thirdparty.any" = some none
  sg : mg "super" = none

structure SupScope (N ps : List Str) (sc : Scope) : Prop where
  kind : sc.kind = ScopeKind.function
  co : sc.isCoroutine = false
  gen : sc.isGenerator = false
  nd : N.Nodup
  pre : N = ps
  par : ∀ x, x ∈ ps → sc.names.lookup x = some NameKind.local
  cls : sc.names.lookup ("__class__" : Str) = some NameKind.free
  sup : sc.names.lookup ("super" : Str) = some NameKind.globalImplicit
  nocell : ∀ y : Str × NameKind, y ∈ sc.names → y.snd ≠ NameKind.cell
  free : ∀ y : Str × NameKind, y ∈ sc.names → y.snd = NameKind.free → y.fst = ("__class__" : Str)

theorem zip_get : ∀ {ps : List Str} {us : List Value} {i : Nat} {x : Str} {u : Value}, ps.Nodup → ps[i]? = some x → us[i]? = some u → ((ps.zip us).reverse).lookup x = some u := by
  intro ps us i x u nd e1 e2
  have hm : (x, u) ∈ ps.zip us := by
    have : (ps.zip us)[i]? = some (x, u) := by
      rw [List.getElem?_zip_eq_some]
      exact ⟨e1, e2⟩
    exact List.mem_of_getElem? this
  have uq : ∀ v, (x, v) ∈ ps.zip us → v = u := by
    intro v hv
    obtain ⟨j, hj⟩ := List.mem_iff_getElem?.mp hv
    rw [List.getElem?_zip_eq_some] at hj
    have : i = j := by
      have h1 := (List.getElem?_eq_some_iff.mp e1)
      have h2 := (List.getElem?_eq_some_iff.mp hj.1)
      obtain ⟨l1, q1⟩ := h1
      obtain ⟨l2, q2⟩ := h2
      exact (List.getElem_inj nd).mp (by rw [q1, q2])
    subst this
    rw [e2] at hj
    exact (Option.some.inj hj.2).symm
  have : ∀ l : List (Str × Value), (x, u) ∈ l → (∀ v, (x, v) ∈ l → v = u) → l.lookup x = some u := by
    intro l
    induction l with
    | nil => intro h; cases h
    | cons p l ih =>
      intro h k
      obtain ⟨y, v⟩ := p
      rw [List.lookup_cons]
      by_cases hy : x = y
      · subst hy
        simp only [beq_self_eq_true]
        rw [k v List.mem_cons_self]
      · have : (x == y) = false := by simpa using hy
        rw [this]
        refine ih ?_ fun v hv => k v (List.mem_cons_of_mem _ hv)
        rcases List.mem_cons.mp h with z | z
        · cases z; exact absurd rfl hy
        · exact z
  exact this _ (by simpa using hm) fun v hv => uq v (by simpa using hv)

section
variable {CX : CXT} {P : Program} {w : World} {K : PySem.W.Frag} {mg : Str → Option Value} {base : Heap} {k : Nat} {f C cc cda : Addr} {name qual : Str} {params : Arguments} {e : Expr} {p0 p1 p2 p3 p4 : Pos} {rest : List Stmt} {scope : Scope} {dV kV doc pm ct oc : Value} {an od : Option Addr}
    {osl : Array (Option Value)} {N ps : List Str} {sp : Sp}
theorem fnS_of (lk : K.lookup f = some ⟨oc, od, .func (PySem.W.ksFn name qual params (.Expr (.Call (.Attribute (.Call (.Name "super" p0) [] [] p1) "__init__" p2) [e] [] p3) p4 :: rest) scope dV kV doc pm an (.ref cda) ct cc), osl⟩)
    (T : SupTxt K mg C f cc cda qual) (S : SupScope N ps scope) (hfile : ((P.main.file : Str) == ("/claim/cut.py" : Str)) = true) (htop : (P.main.scope.names.lookup ("super" : Str)).isSome = false)
    (har : ∃ ar : Arg, (params.posonlyargs ++ params.args).head? = some ar ∧ ps.head? = some ar.arg)
    (len : ∀ vs H Q E, sp vs H Q E → vs.length = ps.length)
    (hswap : ∀ env : Env, swapsWith (.Call (.Attribute (.Call (.Name "super" p0) [] [] p1) "__init__" p2) [e] [] p3) none p4.line env = pure false)
    (hmeth : ∀ env : Env, eval (.Call (.Attribute (.Call (.Name "super" p0) [] [] p1) "__init__" p2) [e] [] p3) env = (do
      let ov ← attributeBase (.Call (.Name "super" p0) [] [] p1) "__init__" env (eval (.Call (.Name "super" p0) [] [] p1) env)
      standAt p2.atName
      let (f, first) ← holding [ov] (getMethod ov "__init__" (pure false))
      callWith p3 f first (backTo p3 (starEach [e] env)) []))
    (hstar : ∀ env : Env, starEach [e] env = (false, eval e env) :: starEach [] env)
    (hbody : ∀ (A : Around) (outer : List Env) (s : Shared) (H : Hp) (vs : List V) (Q : VK) (E : XK), Room k (A.deeper (envS qual scope s.heap.objs.size f (.ref cda) cc)) → sp vs H Q E →
      ∃ a te t, vs.head? = some (.ref a) ∧ H a = some (exo a C none) ∧ PE (cxS CX P w K mg base N qual scope f (.ref cda) cc A outer s H E) e te ∧ PSs (cxS CX P w K mg base N qual scope f (.ref cda) cc A outer s H E) rest t ∧
        te (L2.start N vs) H fun _ H1 => H1 a = some (exo a C none) ∧ t { nx := fun _ H' => Q .non H', rt := Q } (L2.start N vs) H1) :
    FnOk P w K mg base CX (k + 1) f (PySem.W.ksFn name qual params (.Expr (.Call (.Attribute (.Call (.Name "super" p0) [] [] p1) "__init__" p2) [e] [] p3) p4 :: rest) scope dV kV doc pm an (.ref cda) ct cc) ps sp := by
  refine ⟨len, fun A outer s H args us vs Q E hr e0 hb r hsp => ?_⟩
  have hl := len _ _ _ _ hsp
  have hul : us.length = ps.length := by rw [← r.length]; exact hl
  have KX : K.In s.heap := e0.mod.kin.keeps fun b o e => (e0.bs b o e).1
  have lim : s.heap.NoLimit := e0.mod.nolimit.keeps fun b o e => (e0.bs b o e).1
  obtain ⟨cl, cld, csl, hcell⟩ := T.cell
  obtain ⟨ccl, cdd, cvs, ccs, tf, hcode, hvs⟩ := T.code
  obtain ⟨ar, har1, har2⟩ := har
  refine ks_codeAny_call_defAt (fd := PySem.W.ksFn name qual params _ scope dV kV doc pm an (.ref cda) ct cc) (body := _) (binds := ps.zip us) hr.depth (KX _ _ lk) rfl lim (PySem.W.codeRec_of KX T.codeQ) rfl hb S.nocell
    (fun y hy => S.par y.1 (List.of_mem_zip hy).1) (fun h₀ hns hk => ?_) S.co S.gen S.kind
  obtain ⟨a, te, t, hva, hHa, hpe, hps, hq⟩ := hbody A outer s H vs Q E (hr.deeper _) hsp
  have I : Inv (cxS CX P w K mg base N qual scope f (.ref cda) cc A outer s H E) [] (L2.start N vs) H { s with heap := h₀, toks := s.toks + (ps.zip us).length } := by
    have noA : ∀ b : Addr, b ∉ (cxS CX P w K mg base N qual scope f (.ref cda) cc A outer s H E).ex := fun b z => absurd (show b ∈ ([] : List Addr) from z) (by simp)
    have one : ∀ (y : Str) (c : Addr), List.lookup y [(("__class__" : Str), cc)] = some c → c = cc := fun y c z => by
      rw [List.lookup_cons] at z
      split at z
      · exact (Option.some.inj z).symm
      · cases z
    have ccb : base.get? cc = some _ := e0.mod.kin _ _ hcell
    refine ⟨⟨e0.mod, S.kind, rfl, rfl, Nat.le_refl _, fun y z c h1 h2 => ?_, fun y hy => ?_, fun y c hf h => absurd (show false = true from hf) Bool.false_ne_true, fun _ => hr.hd, Around.frames_deeper e0.frames, .inr ⟨rfl, rfl⟩, fun b z => absurd z (noA b), e0.bs, e0.bsz, fun b _ _ => noA b, fun b z => absurd z (noA b), e0.funs, e0.frf⟩,
      rfl, e0.bare, Un.kept hk, ⟨_, hns, fun i y v h1 h2 h3 => ?_⟩, fun y c h => ?_, e0.hok.fresh (Nat.le_refl _), fun y c h => ?_, fun p hp => absurd (show p ∈ ([] : List (Addr × Obj)) from hp) (by simp), e0.hok.kept hk, ?_⟩
    · have h1 : List.lookup y [(("__class__" : Str), cc)] = some c := h1
      have h2 : List.lookup z [(("__class__" : Str), cc)] = some c := h2
      have ky : ∀ x : Str, List.lookup x [(("__class__" : Str), cc)] = some c → x = "__class__" := fun x z => by
        rw [List.lookup_cons] at z
        split at z
        · rename_i q; simpa using q
        · cases z
      rw [ky y h1, ky z h2]
    · have hy : scope.names.lookup y = some .cell ∨ scope.names.lookup y = some .free := hy
      rcases hy with hy | hy
      · exact absurd rfl (S.nocell _ (PySem.mem_of_lookup hy))
      · have := S.free _ (PySem.mem_of_lookup hy) rfl
        refine ⟨cc, ?_⟩
        show List.lookup y [(("__class__" : Str), cc)] = some cc
        rw [show y = ("__class__" : Str) from this]
        simp
    · have hi : i < vs.length := by
        unfold L2.start at h2
        by_cases hi : i < vs.length
        · exact hi
        · rw [List.getElem?_append_right (by simpa using hi)] at h2
          rw [List.getElem?_replicate] at h2
          split at h2 <;> cases h2
      have ha : vs[i]? = some v := by
        unfold L2.start at h2
        rw [List.getElem?_append_left (by simpa using hi), List.getElem?_map] at h2
        cases e : vs[i]? with
        | none => rw [e] at h2; cases h2
        | some a => rw [e] at h2; cases h2; rfl
      obtain ⟨u, hu, rv⟩ := r.get ha
      have hp : ps[i]? = some y := by rw [← S.pre]; exact h1
      refine ⟨u, rv, .inl ⟨S.par y (List.mem_of_getElem? hp), ?_⟩⟩
      exact zip_get (by rw [← S.pre]; exact S.nd) hp hu
    · have : c = cc := one y c h
      subst this
      exact ⟨_, _, hk _ _ (e0.bs _ _ ccb).1, rfl⟩
    · have : c = cc := one y c h
      subst this
      exact (e0.bs _ _ ccb).2
    · unfold L2.start
      show _ = N.length
      rw [List.length_append, List.length_map, List.length_replicate]
      have : N.length = ps.length := by rw [S.pre]
      omega
  have XK := I.kIn
  have ho := exo_at I.hok hHa
  obtain ⟨t0, ho⟩ := ho
  obtain ⟨mb, hb1, hb2⟩ := I.mod.blt
  have hgl := I.mod.glob.keeps I.bk
  have hbl := hb1.keeps I.bk
  -- self
  have hself : ∃ u, us.head? = some u ∧ u = Value.ref a := by
    cases vs with
    | nil => cases hva
    | cons v vs =>
      cases hva
      cases r with
      | cons r1 r2 => exact ⟨_, rfl, r1⟩
  obtain ⟨u0, hu0, rfl⟩ := hself
  have hlook : ((ps.zip us).reverse).lookup ar.arg = some (.ref a) := by
    refine zip_get (i := 0) (by rw [← S.pre]; exact S.nd) ?_ ?_
    · rw [← List.head?_eq_getElem?]; exact har2
    · rw [← List.head?_eq_getElem?]; exact hu0
  have hloc : scope.names.lookup ar.arg = some .local := S.par _ (List.mem_of_mem_head? har2)
  refine ks_wpAt_execs_cons (ks_wpAt_Expr_any (ks_wpAt_MethodCall ?_ (hmeth _)) (by show interactive _ = false; simp [interactive, PySem.callEnv, newEnv, S.kind]) (hswap _))
  obtain ⟨nm, qn, N', bs, bm, sn, sub, ab, col, dd, k0, k1, k2, k3, k5, hC, hbm⟩ := T.ox.cls
  have hCh := XK _ _ hC
  have hcl : PySem.W.clsIn K C = some { name := nm, bases := bs, mro := .ref C :: bm, ns := N', qualname := qn, hasDict := true, slotNames := sn, subclasses := sub, abstract := ab, collection := col, hasDel := false } := by unfold PySem.W.clsIn; rw [hC] <;> rfl
  refine ks_wpAt_super_base (env := envS qual scope s.heap.objs.size f (.ref cda) cc) S.sup S.cls (by decide) rfl (XK _ _ lk) rfl har1 rfl (XK _ _ hcode) rfl hvs hfile htop ?_
  refine PySem.W.ks_loadName_global S.kind S.sup (Calls.loadGlobal_builtin (env := envS qual scope s.heap.objs.size f (.ref cda) cc) hgl T.sg hbl ((hb2 _ (by decide +kernel)).trans (show bootBuiltins "super" = some (.type "super") by decide +kernel)) ⟨rfl, ?_⟩)
  refine wpAny_loadName_free S.kind S.cls rfl ⟨_, XK _ _ hcell, rfl⟩ ?_
  refine wpAny_loadName_local S.kind hloc hns hlook ?_
  have Ia : PySem.W.InstAt h₀ a { cls := .ref C, dict := none, data := .fields #[.ref t0, .none, .none, .none, .bool false, .none] } C none := ⟨ho, rfl, rfl, trivial⟩
  refine ks_wpAny_isType_cls hCh rfl ⟨rfl, ?_⟩
  refine ks_wpAny_call_super hCh rfl ho rfl (fun c z => nomatch z) (PySem.W.looks_mroIn XK T.mro) (fun h1 e1 kk1 => ?_)
  have I1 := I.kept (t' := s.toks + (ps.zip us).length) kk1
  have hIs : PySem.W.Looks (model P w) h1 (isInstance (.ref a) (.type "ValueError")) true := (PySem.W.InstAt.type (M := model P w) (⟨kk1 _ _ ho, rfl, rfl, trivial⟩ : PySem.W.InstAt h1 a { cls := .ref C, dict := none, data := .fields #[.ref t0, .none, .none, .none, .bool false, .none] } C none)).andThen (PySem.W.looks_subIn I1.kIn T.sub)
  have hsup := T.sup
  unfold PySem.W.ks_superIn at hsup
  rw [hcl] at hsup
  refine PySem.W.kxs_getMethod PySem.W.kxs_ValueError e1 (PySem.W.looks_opaque I1.kIn T.tp) (l₀ := .ref C :: bm) ?_ rfl I1.kIn hsup hIs (PySem.W.ks_ne XK Ia hcl) (by decide) ?_
  · exact fun A Q E s k q => wpAny_bind ((PySem.W.looks_clsIn I1.kIn hcl) A _ E s k (wpAny_pure q))
  have I2 := I1.kept (t' := s.toks + (ps.zip us).length + 1) (h' := h1.push (PySem.W.kxs_mw "ValueError.__init__" a)) (fun b u z => Heap.get?_push_of_some _ z)
  rw [hstar]
  refine PySem.W.kxs_callWith (i := "ValueError.__init__") (x := a) rfl (Calls.evalArgs_plain ?_)
  -- pins: the bound wrapper stands while the argument is reckoned
  have hmw : (h1.push (PySem.W.kxs_mw "ValueError.__init__" a)).get? h1.objs.size = some (PySem.W.kxs_mw "ValueError.__init__" a) := Heap.get?_push_at rfl rfl
  have Hn : H h1.objs.size = none := I1.hok.fresh (Nat.le_refl _)
  have I3 : Inv (cxS CX P w K mg base N qual scope f (.ref cda) cc A outer s H E) [(h1.objs.size, PySem.W.kxs_mw "ValueError.__init__" a)] (L2.start N vs) H _ := I2.pins_of fun p hp => by
    rw [List.mem_singleton] at hp
    subst hp
    refine ⟨hmw, Hn, fun z => ?_, I1.nofs (Nat.le_refl _), fun v z => nomatch z⟩
    exact absurd I1.lt (by rw [← z]; exact Nat.lt_irrefl _)
  refine Calls.spliced_cons (thn (hpe.run _ _ _ _ _ I3 hq) fun v s4 ⟨x, H1, I4, rx, hHa1, hq4⟩ => Calls.spliced_nil ?_)
  have hmw4 := (I4.pin (h1.objs.size, PySem.W.kxs_mw "ValueError.__init__" a) (by simp)).1
  refine ⟨hmw4, ?_⟩
  obtain ⟨t4, ho4⟩ := exo_at I4.hok hHa1
  obtain ⟨hp, gg, dr, tk, os⟩ := s4
  refine call_bwV (I4.kIn _ _ hC) ho4 hmw4 (by show 1 ≤ sizeLine; decide) fun h' t5 kk5 hx5 => ?_
  have J := I4.write (t' := tk) (x := a) (e := a) (o := exo a C none) (by rw [hHa1]; exact True.intro) (.inl rfl) kk5 ⟨_, hx5⟩ (exo_ok hx5)
  have eu : upd H1 a (exo a C none) = H1 := by
    funext b
    by_cases hb : b = a
    · rw [hb, upd_same, hHa1]
    · rw [upd_ne hb]
  rw [eu] at J
  refine wpAt_of_wpAny (wpAny_mono (hps.run _ _ _ _ _ J hq4) (fun fl s' hs => ?_) fun e s' hs => hs)
  have fin : ∀ {σ' : L2.St} {H' : Hp} {v : V} {u : Value} {pn : List (Addr × Obj)}, Inv (cxS CX P w K mg base N qual scope f (.ref cda) cc A outer s H E) pn σ' H' s' → RelV v u → Q v H' → CE outer P w H s Q u s' :=
    fun {σ' H' v u pn} J rv q => ⟨v, H', J.os, J.bare, J.base, J.hok, rv, q⟩
  cases fl with
  | ret u =>
    obtain ⟨v, σ', H', J, rv, q⟩ := hs
    exact fin J rv q
  | next =>
    obtain ⟨σ', H', J, q⟩ := hs
    exact fin (v := V.non) (u := Value.none) J rfl q
  | brk =>
    obtain ⟨_, _, _, q⟩ := hs
    exact False.elim q
  | cont =>
    obtain ⟨_, _, _, q⟩ := hs
    exact False.elim q
end
end ML

set_option maxHeartbeats 4000000
namespace ML
open PySem PySem.Spec PyProof.Rows L2

/-! ### an exception that is caught stands in the abstract heap from then on -/
section
variable {X : Cx} {pins : List (Addr × Obj)} {σ : L2.St} {H : Hp} {s : Shared}
theorem exv_ok {P : Program} {w : World} {H : Hp} {h : Heap} {a : Addr} {cls : Value} {d : Option Addr} {oe : Obj} {vs : Array Value} (e : h.get? a = some oe) (z : Zc cls d oe) (hd : oe.data = .fields vs) : ObjOk P w H h a (ExV cls d a) :=
  ⟨⟨oe, vs, e, z, hd⟩, ⟨oe, e⟩, fun _ _ ⟨o, v, q, r⟩ k => ⟨o, v, k o q, r⟩⟩
/-- an object that came behind the entry is tracked from now on -/
theorem Inv.track {a : Addr} {o : HO} (I : Inv X pins σ H s) (hn : H a = none) (h0 : X.s_0.heap.get? a = none) (hp : ∀ p ∈ X.pn ++ pins, p.1 ≠ a) (hL : a ≠ X.env.locals) (hc : ∀ x c, X.env.cells.lookup x = some c → c ≠ a)
    (new : ObjOk X.prog X.w (upd H a o) s.heap a o) : Inv X pins σ (upd H a o) s := by
  have nb : ∀ b ob, X.s_0.heap.get? b = some ob → b ≠ a := fun b ob e z => by rw [z, h0] at e; cases e
  refine ⟨I.ok, I.os, I.bare, ⟨I.base.keep, I.base.slot, fun b ob e n hb => ?_, I.base.there, fun b xs e => ?_, fun b ob u e => ?_, fun b ps e => ?_⟩, I.loc, I.cell, ?_, fun x c e => ?_, fun p hp' => ?_, fun b u e => ?_, I.len⟩
  · rw [upd_ne (nb b ob e)]; exact I.base.free b ob e n hb
  · have q := I.base.tups b xs e; rw [upd_ne (ne_of_none q hn)]; exact q
  · have q := I.base.frzs b ob u e; rw [upd_ne (ne_of_none q hn)]; exact q
  · obtain ⟨m, q⟩ := I.base.tbls b ps e; exact ⟨m, by rw [upd_ne (ne_of_none q hn)]; exact q⟩
  · rw [upd_ne hL.symm]; exact I.free
  · rw [upd_ne (hc x c e)]; exact I.freeC x c e
  · obtain ⟨q1, q2, q3⟩ := I.pin p hp'
    exact ⟨q1, by rw [upd_ne (hp p hp')]; exact q2, q3⟩
  · by_cases hb : b = a
    · subst hb
      rw [upd_same] at e
      cases e
      exact new
    · rw [upd_ne hb] at e
      exact (I.hok b u e).stay (fun c v _ q => q) (fun c q => by rw [upd_ne (ne_of_none q hn)]; exact q) fun c xs q => by rw [upd_ne (ne_of_none q hn)]; exact q

/-- the suite's context, the exception tracked -/
theorem Inv.suiteT {H : Hp} (I : Inv X pins σ H s) (a : Addr) : Inv (X.suite a (X.pn ++ pins)) [] σ H s :=
  ⟨I.ok.suite _ _, I.os, I.bare, I.base, I.loc, I.cell, I.free, I.freeC, fun p hp => I.pin p (by simpa using hp), I.hok, I.len⟩
theorem Inv.unsuiteT {a : Addr} {pn' : List (Addr × Obj)} (I : Inv (X.suite a (X.pn ++ pins)) pn' σ H s) (ok : X.Ok) : Inv X pins σ H s :=
  ⟨ok, I.os, I.bare, I.base, I.loc, I.cell, I.free, I.freeC, fun p hp => I.pin p (List.mem_append_left _ hp), I.hok, I.len⟩
end
/-- what the clause 'except x as n' wishes of an exception of the body: slot i is n's; the exception is tracked -/
def wAsT (K : PySem.W.Frag) (c : Value) (i : Nat) (ts : TS) (Wout : WX) (D : Ends) : WX := fun cls d σ H =>
  ∃ b, PySem.W.exmOne K cls c = some b ∧ (b = true → ∀ a, H a = none → ts { nx := fun σ' H' => D.nx (σ'.set i none) H', rt := D.rt, bk := fun σ' H' => D.bk (σ'.set i none) H', ct := fun σ' H' => D.ct (σ'.set i none) H' } (σ.set i (some (.ref a))) (upd H a (ExV cls d a))) ∧
    (b = false → Wout cls d σ H)
section
variable {X : Cx} {x n : Str} {c : Value} {i : Nat} {body suite : List Stmt} {b₀ : Stmt} {np pos pos' : Pos} {tb : WX → TS} {ts : TS} {Wout : WX}
theorem ps_try_asT (hs : X.stack = X.env :: X.outer) (hf : X.env.frame = some X.env.locals) (hex : X.ex = []) (hN : X.N.Nodup) (hi : X.N[i]? = some n) (hln : X.env.kindOf n = some .local) (hc : Names X x c) (tk : Takes X Wout)
    (hb : ∀ (W : WX) (pn : List (Addr × Obj)) (xe : Value → Shared → Prop), Takes (X.tr pn xe) W → PassesOwn (model X.prog X.w) X.A X.env xe → PSs (X.tr pn xe) body (tb W))
    (hsu : ∀ (a : Addr) (pn : List (Addr × Obj)), PSs (X.suite a pn) (b₀ :: suite) ts) :
    PS X (.Try body [.ExceptHandler (some (.Name x np)) (some n) (b₀ :: suite) pos'] [] [] pos) (fun D σ H => tb (wAsT X.K c i ts Wout D) D σ H) := by
  refine ⟨fun pins s σ H D I h => ?_⟩
  have ok := I.ok
  have hfr : X.A.frames = some (X.env :: X.outer) := by rw [ok.frames, hs]
  have hloc : Loc X.env.scope n := .inl hln
  refine wpAny_Try_except ?_
  refine wpAny_mono ((hb (wAsT X.K c i ts Wout D) (X.pn ++ pins) (fun e s₁ => wpAny (model X.prog X.w) X.A (noteFrame e X.env) (fun _ s₂ => wpAny (model X.prog X.w) X.A (setFlight e none) (fun _ s₃ =>
    wpAny (model X.prog X.w) X.A (handleBy e X.env [.ExceptHandler (some (.Name x np)) (some n) (b₀ :: suite) pos']) (SP X pins D) X.xe s₃) X.xe s₂) X.xe s₁) (fun u s' xx => ?_) PassesOwn.looking).run [] s σ H D (I.toTry _) h) (fun f s1 hsp => ?_) (fun e s1 he => he)
  · obtain ⟨a, B, sI, pins', σ', H', cls, d, rfl, J', nb, up, sky, na, os, ag, b, hb1, hyes, hno⟩ := xx
    have J : Inv X pins σ' H' sI := J'.ofTry ok
    have sky' : Sky B (X.env :: X.outer) a (Zc cls d) X.env.locals s'.heap := by rw [← hs]; exact sky
    show wpAny (model X.prog X.w) X.A (noteFrame (.ref a) X.env) _ _ _
    refine Sky.land Zc.steady hfr hf sky' fun h3 fl3 up3 => ?_
    have J3 : Inv X pins σ' H' { s' with heap := h3 } := J.landed nb fl3.1 (up.trans up3) os ag
    obtain ⟨oe3, vs3, he3, hz3, hd3⟩ := fl3.there
    have notFr : ∀ {h : Heap} {o : Obj} {vs : Array Value}, h.FunFrames B (X.env :: X.outer) → h.get? a = some o → o.data = .fields vs → a ∉ frs (X.env :: X.outer) := fun {h o vs} ff e dd hm => by
      obtain ⟨_, o', e', hnf⟩ := ff.mem hm
      rw [e] at e'; cases e'
      exact hnf _ dd
    have nfr := notFr fl3.2.2.1 he3 hd3
    have nL : a ≠ X.env.locals := fun z => nfr (List.mem_filterMap.mpr ⟨X.env, List.mem_cons_self, by rw [hf, z]⟩)
    have nF : a ∉ X.fs := fun hm => by
      obtain ⟨e, he, q⟩ := List.mem_filterMap.mp hm
      exact nfr (List.mem_filterMap.mpr ⟨e, List.mem_cons_of_mem _ he, q⟩)
    -- it is none of what stood before it was made
    have nI : sI.heap.get? a = none := by
      cases q : sI.heap.get? a with
      | none => rfl
      | some o =>
        have z := nb a o q (by rw [hs]; exact nfr)
        rw [fl3.2.1] at z
        cases z
    have n0 : X.s_0.heap.get? a = none := by
      cases q : X.s_0.heap.get? a with
      | none => rfl
      | some o =>
        obtain ⟨o', z⟩ := J.base.there a o q (by rw [hex]; exact fun z => nomatch z)
        rw [nI] at z
        cases z
    have nP : ∀ p ∈ X.pn ++ pins, p.1 ≠ a := fun p hp z => by
      have q := (J.pin p hp).1
      rw [z, nI] at q
      cases q
    have nC : ∀ x c, X.env.cells.lookup x = some c → c ≠ a := fun x c e z => by
      obtain ⟨v, o, q, _⟩ := J.cell x c e
      rw [z, nI] at q
      cases q
    refine wpAny_handleBy_cons (codeAny_handlers_test ?_) (by intro q; cases q)
    have LT : PySem.W.Looks (model X.prog X.w) h3 (typeOf (.ref a)) cls := fun A Q E s k q => wpAny_typeOf_ref (k _ _ he3) (by rw [hz3.1]; exact q)
    have LM := PySem.W.exm_one (M := model X.prog X.w) (J3.kIn) LT hb1
    have S3 := J3.suite he3 hd3 na nL nF
    have test : ∀ {Q : Value → Shared → Prop} {E : Value → Shared → Prop}, Q c { s' with heap := h3 } → wpAny (model X.prog X.w) (X.A.mark (some (.ref a))) (eval (.Name x np) X.env) Q E { s' with heap := h3 } := fun {Q E} q => by
      obtain ⟨hg, hdbg, hm | ⟨hm, hv, hnn⟩⟩ := hc
      · exact ld_glob (X := X.suite a ((a, oe3) :: (X.pn ++ pins))) S3 hg hm q hdbg
      · exact ld_blt (X := X.suite a ((a, oe3) :: (X.pn ++ pins))) S3 hg hm hv q hnn hdbg
    refine test (LM.here ?_)
    cases b with
    | true =>
      refine codeAny_handlers_suite_as ?_
      refine HandSPX.lands_againZ fl3 fun h4 fl4 up4 => ?_
      have J4 : Inv X pins σ' H' { s' with heap := h4 } := J.landed nb fl4.1 ((up.trans up3).trans up4) os ag
      obtain ⟨oe4, vs4, he4, hz4, hd4⟩ := fl4.there
      have J5 := Inv.track (o := ExV cls d a) J4 na n0 nP nL nC (exv_ok he4 hz4 hd4)
      have S4 := Inv.suiteT J5 a
      refine store_ok (X := X.suite a (X.pn ++ pins)) (v := .ref a) S4 hN hi hloc rfl (fun s5 S5 => ?_) (.inr hln)
      refine wpAny_mono ((hsu a (X.pn ++ pins)).run [] s5 _ (upd H' a (ExV cls d a)) _ S5 (hyes rfl a na)) (fun f s6 hsp => ?_) (fun _ _ z => False.elim z)
      have end_ : ∀ {σ6 : L2.St} {H6 : Hp} {Q : Shared → Prop}, Inv (X.suite a (X.pn ++ pins)) [] σ6 H6 s6 → (∀ s7, Inv X pins (σ6.set i none) H6 s7 → Q s7) →
          wpAny (model X.prog X.w) X.A (do bindName X.env n .none; unbindBehindTheSuite X.env n pos') (fun _ s7 => Q s7) X.xe s6 := fun {σ6 H6 Q} S6 hq => gone_ok (Inv.unsuiteT S6 ok) hN hi hln hq
      cases f with
      | next =>
        obtain ⟨σ6, H6, S6, q6⟩ := hsp
        exact end_ S6 fun s7 J7 => ⟨_, _, J7, q6⟩
      | brk =>
        obtain ⟨σ6, H6, S6, q6⟩ := hsp
        exact end_ S6 fun s7 J7 => ⟨_, _, J7, q6⟩
      | cont =>
        obtain ⟨σ6, H6, S6, q6⟩ := hsp
        exact end_ S6 fun s7 J7 => ⟨_, _, J7, q6⟩
      | ret u =>
        obtain ⟨v6, σ6, H6, S6, r6, q6⟩ := hsp
        exact end_ S6 fun s7 J7 => ⟨_, _, _, J7, r6, q6⟩
    | false =>
      show wpAny _ X.A (handleBy (.ref a) X.env []) _ _ _
      refine wpAny_handleBy_nil ?_
      obtain ⟨k1, k2, k3, oe, vs, T, oT, ts', he, hz, hd, h1, hr⟩ := id fl3
      unfold PySem.passOn
      refine wpAny_bind (wpAny_field he hd h1 ?_)
      rw [if_neg (show ¬ ((Value.ref T == Value.none) = true) from by simp)]
      have fin : wpAny (model X.prog X.w) X.A (setFlight (.ref a) X.env.frame) (fun _ s4 => wpAny (model X.prog X.w) X.A (throw (.ref a) : Sem Flow) (SP X pins D) X.xe s4) X.xe { s' with heap := h3 } := by
        rw [hf]
        refine HandSPX.setFlight_upZ fl3 fun h4 hh4 up4 => wpAny_throw (tk _ _ ?_)
        exact ⟨a, B, sI, pins, σ', H', cls, d, rfl, J, nb, (up.trans up3).trans up4, .inr (.inr (by rw [hs]; exact hh4)), na, os, ag, hno rfl⟩
      first
        | exact wpAny_bind (wpAny_pure (wpAny_bind fin))
        | exact wpAny_bind fin
  · cases f with
    | next =>
      obtain ⟨σ', H', J', q⟩ := hsp
      exact wpAny_execs_nil ⟨σ', H', J'.ofTry ok, q⟩
    | brk =>
      obtain ⟨σ', H', J', q⟩ := hsp
      exact ⟨σ', H', J'.ofTry ok, q⟩
    | cont =>
      obtain ⟨σ', H', J', q⟩ := hsp
      exact ⟨σ', H', J'.ofTry ok, q⟩
    | ret u =>
      obtain ⟨v, σ', H', J', r, q⟩ := hsp
      exact ⟨v, σ', H', J'.ofTry ok, r, q⟩
end

/-! ### e.f, isinstance(e, C) of such an exception -/
/-- what an own error's class must say -/
structure ExcK (K : PySem.W.Frag) (C : Addr) : Prop where
  cl : (PySem.W.clsIn K C).isSome = true
  ga : PySem.W.findIn K (.ref C) "__getattribute__" = some (some (.builtin "BaseException.__getattribute__"))
  gg : PySem.W.findIn K (.ref C) "__getattr__" = some none
  sb : PySem.W.subIn K (.ref C) (.type "BaseException") = some true
  hd : PySem.W.hasDictIn K C = true
  ha : PySem.W.findIn K (.ref C) "__class__" = some (some (.builtin "object.__class__"))
  hn : PySem.W.specialIn K (.builtin "object.__class__") "__get__" = some (some (.builtin "getset_descriptor.__get__"))
  ht : PySem.W.takesIn K (.builtin "object.__class__") = some true
  hm : PySem.W.mroIn K C (.type "object") = some true
section
variable {X : Cx} {pins : List (Addr × Obj)} {σ : L2.St} {H : Hp} {s : Shared}
theorem exv_at {P : Program} {w : World} {H : Hp} {h : Heap} {a : Addr} {cls : Value} {d : Option Addr} (hok : HOk P w H h) (he : H a = some (ExV cls d a)) : ∃ (oe : Obj) (vs : Array Value), h.get? a = some oe ∧ Zc cls d oe ∧ oe.data = .fields vs := by
  have x : ObjOk P w H h a (.ext fun h => ∃ (oe : Obj) (vs : Array Value), h.get? a = some oe ∧ Zc cls d oe ∧ oe.data = .fields vs) := hok a _ he
  exact x.1
theorem exv_inst (I : Inv X pins σ H s) {a C : Addr} {d : Option Addr} (he : H a = some (ExV (.ref C) d a)) (hd : d = none ∨ ∃ dd gs, d = some dd ∧ H dd = some (.xd gs)) : ∃ oe od, PySem.W.InstAt s.heap a oe C od := by
  obtain ⟨oe, vs, e, z, q⟩ := exv_at I.hok he
  have hno : PySem.W.notCls oe = true := by unfold PySem.W.notCls; rw [q] <;> rfl
  rcases hd with rfl | ⟨dd, gs, rfl, ed⟩
  · exact ⟨oe, none, e, z.1, hno, by rw [z.2]; trivial⟩
  · have hx : ObjOk X.prog X.w H s.heap dd (.xd gs) := I.hok dd _ ed
    obtain ⟨mA, hns, hr⟩ := hx
    obtain ⟨od, ho, hl⟩ := lookIn_ns hns
    exact ⟨oe, some od, e, z.1, hno, by rw [z.2]; exact ho⟩
/-- e.f: of an instance, or of a caught exception -/
def tFldX (K : PySem.W.Frag) (ta : TE) (f : Str) : TE := fun σ H Q => ta σ H fun x H1 => (∃ a C dx fs v, x = .ref a ∧ H1 a = some (.ins C dx fs) ∧ Cls K C ∧ NoAttr K C f ∧ fs.lookup f = some v ∧ Q v H1) ∨
  (∃ a C dd gs v, x = .ref a ∧ H1 a = some (ExV (.ref C) (some dd) a) ∧ ExcK K C ∧ PySem.W.findIn K (.ref C) f = some none ∧ H1 dd = some (.xd gs) ∧ gs.lookup f = some v ∧ Q v H1)
theorem pe_fldX {e : Expr} {ta : TE} {f : Str} {pos : Pos} (he : PE X e ta) (hb : attributeBase e f X.env (eval e X.env) = eval e X.env := by rfl) : PE X (.Attribute e f pos) (tFldX X.K ta f) := by
  refine ⟨fun pins s σ H Q I h => attr_of hb (thn (he.run pins s σ H _ I h) fun u s1 hh => ?_)⟩
  obtain ⟨x, H1, I1, rx, hh⟩ := hh
  rcases hh with ⟨a, C, dx, fs, v, rfl, ea, c, n, l, q⟩ | ⟨a, C, dd, gs, v, rfl, ea, c, n, ed, l, q⟩
  · obtain rfl : u = Value.ref a := rx
    exact getattr_ok I1 ea c n l fun u s' I2 r => ⟨v, H1, I2, r, q⟩
  · obtain rfl : u = Value.ref a := rx
    obtain ⟨oe, vs, e1, z, hd⟩ := exv_at I1.hok ea
    have hx : ObjOk X.prog X.w H1 s1.heap dd (.xd gs) := I1.hok dd _ ed
    obtain ⟨mA, hns, hr⟩ := hx
    obtain ⟨od, ho, hl⟩ := lookIn_ns hns
    obtain ⟨u, hu, ru⟩ := RelO.some_of (v := v) (o := mA f) (by rw [← l]; exact hr f)
    have J : PySem.W.InstAt s1.heap a oe C (some od) := ⟨e1, z.1, by unfold PySem.W.notCls; rw [hd] <;> rfl, by rw [z.2]; exact ho⟩
    exact HandSPX.exc_get I1.kIn J c.ga c.gg c.sb (PySem.W.findObj_own c.hd n rfl (by rw [hl, hu])) (handed_of ru) ⟨v, H1, I1.tok _, ru, q⟩
/-- isinstance(e, c) of a caught exception -/
def rIsV (K : PySem.W.Frag) : List V → Hp → VK → Prop := fun xs H Q => ∃ (a C : Addr) (d : Option Addr) (c : V) (u : Value) (b : Bool), xs = [.ref a, c] ∧ ClsV c u ∧ H a = some (ExV (.ref C) d a) ∧ (d = none ∨ ∃ dd gs, d = some dd ∧ H dd = some (.xd gs)) ∧ ExcK K C ∧
  PySem.W.kitOne K (.ref C) u = some b ∧ Q (.bl b) H
theorem call_isV : CallR X (.builtin "isinstance") (rIsV X.K) := by
  intro pins s σ H xs us Q I r h
  obtain ⟨a, C, d, c, u, b, rfl, k, ea, hd, T, e, q⟩ := h
  obtain ⟨u1, u2, rfl, r1, r2⟩ := vals2 r
  have e2 := k.eq r2
  subst e2
  obtain rfl : u1 = Value.ref a := r1
  obtain ⟨oe, od, J⟩ := exv_inst I ea hd
  exact PySem.W.kia_one (PySem.W.kitx_exc T.cl T.ga T.gg T.sb T.ha T.hn T.ht T.hm) I.kIn J e (fun z => nomatch z) fun tk => ⟨.bl b, H, I.tok tk, rfl, q⟩
end
end ML

set_option maxHeartbeats 4000000
namespace ML
open PySem L2
section
variable {G : Gm} {Wx : WX} {μ μ' : Nat → Addr} {h h' : Hm} {H H' : Hp} {ρ : Ev} {σ : L2.St}

/-! ### e.f -/
structure AtX (G : Gm) (f : Str) (ins exc : Nat → Bool) : Prop where
  ins : ∀ c, ins c = true → Cls G.K (G.ca c) ∧ NoAttr G.K (G.ca c) f
  exc : ∀ c, exc c = true → ExcK G.K (G.ca c) ∧ PySem.W.findIn G.K (.ref (G.ca c)) f = some none
def mAttrX (f : Str) (ins exc : Nat → Bool) (o : ME) : ME := fun ρ h => bnd (o ρ h) fun x h1 => match x with
  | .ref i => match h1[i]? with
    | some (.ins c fs) => if ins c = true then match fget f fs with
        | some w => some (.ok w h1)
        | none => none
      else none
    | some (.exc c fs) => if exc c = true then match fget f fs with
        | some w => some (.ok w h1)
        | none => none
      else none
    | _ => none
  | _ => none
theorem w_attrX {f : Str} {ins exc : Nat → Bool} {o : ME} (a : AtX G f ins exc) : ∀ σ H Q, tE G Wx (mAttrX f ins exc o) σ H Q → tFldX G.K (tE G Wx o) f σ H Q := fun σ H Q ⟨μ, ρ, h, s, p⟩ =>
  ⟨μ, ρ, h, s, (Post.bnd p).mono fun μ1 h1 H1 wx g q x rx => by
    cases wx with
    | ref i =>
      simp only [RU] at rx
      obtain ⟨hi, rfl⟩ := rx
      simp only at q
      split at q
      · rename_i c fs ec
        split at q
        · rename_i hc
          split at q
          · rename_i w ew
            obtain ⟨dx, gs, ea, rf⟩ := g.rel.cell i _ ec
            obtain ⟨v, ev, rv⟩ := fget_ok ew rf
            obtain ⟨c1, c2⟩ := a.ins c hc
            exact .inl ⟨_, _, dx, gs, v, rfl, ea, c1, c2, ev, Post.ok g.rel q _ rv⟩
          · exact False.elim q
        · exact False.elim q
      · rename_i c fs ec
        split at q
        · rename_i hc
          split at q
          · rename_i w ew
            obtain ⟨cls, d, ea, ecl, rx⟩ := g.rel.cell i _ ec
            subst ecl
            rcases rx with ⟨rfl, _⟩ | ⟨dd, gs, rfl, ed, rf⟩
            · cases ew
            · obtain ⟨v, ev, rv⟩ := fget_ok ew rf
              obtain ⟨c1, c2⟩ := a.exc c hc
              exact .inr ⟨_, _, dd, gs, v, rfl, ea, c1, c2, ed, ev, Post.ok g.rel q _ rv⟩
          · exact False.elim q
        · exact False.elim q
      · exact False.elim q
    | _ => exact False.elim q⟩

/-! ### isinstance -/
inductive TyK where
  | non | bl | int | str | lst | tup | ins (c : Nat) | exc (c : Nat)
def tyK (w : U) (h : Hm) : Option TyK := match w with
  | .non => some .non
  | .bl _ => some .bl
  | .int _ => some .int
  | .str _ => some .str
  | .tup _ => some .tup
  | .ref i => match h[i]? with
    | some (.lst _) => some .lst
    | some (.ins c _) => some (.ins c)
    | some (.exc c _) => some (.exc c)
    | _ => none
def tyVal (ca : Nat → Addr) : TyK → Value
  | .non => .type "NoneType"
  | .bl => .type "bool"
  | .int => .type "int"
  | .str => .type "str"
  | .lst => .type "list"
  | .tup => .type "tuple"
  | .ins c => .ref (ca c)
  | .exc c => .ref (ca c)
/-- what an own class must say, so that isinstance asks its instances rightly -/
structure InsK (K : PySem.W.Frag) (C : Addr) : Prop where
  cl : Cls K C
  ha : PySem.W.findIn K (.ref C) "__class__" = some (some (.builtin "object.__class__"))
  hn : PySem.W.specialIn K (.builtin "object.__class__") "__get__" = some (some (.builtin "getset_descriptor.__get__"))
  htk : PySem.W.takesIn K (.builtin "object.__class__") = some true
  hm : PySem.W.mroIn K C (.type "object") = some true
/-- the answers for the class u -/
structure IsiC (G : Gm) (tab : TyK → Option Bool) (cv : V) (u : Value) : Prop where
  cls : ClsV cv u
  ok : ∀ k b, tab k = some b → PySem.W.kitOne G.K (tyVal G.ca k) u = some b
  ins : ∀ c b, tab (.ins c) = some b → InsK G.K (G.ca c)
  exc : ∀ c b, tab (.exc c) = some b → ExcK G.K (G.ca c)
def mIsi (tab : TyK → Option Bool) (a : ME) : ME := fun ρ h => bnd (a ρ h) fun w h1 => match tyK w h1 with
  | some k => match tab k with
    | some b => some (.ok (.bl b) h1)
    | none => none
  | none => none
theorem w_isi {tab : TyK → Option Bool} {cv : V} {u : Value} {a : ME} (t : IsiC G tab cv u) : ∀ σ H Q, tE G Wx (mIsi tab a) σ H Q → tCB (fun xs H Q => rIsi G.K xs H Q ∨ rIsV G.K xs H Q) (tCons (tE G Wx a) (tCons (tC cv) tNil)) σ H Q := fun σ H Q ⟨μ, ρ, h, s, p⟩ =>
  ⟨μ, ρ, h, s, (Post.bnd p).mono fun μ1 h1 H1 w g q v r => by
    show (rIsi G.K [v, cv] H1 Q ∨ rIsV G.K [v, cv] H1 Q)
    split at q
    · rename_i k ek
      split at q
      · rename_i b eb
        have e := t.ok k b eb
        have fin : ∀ tv, TyX G.K H1 v tv → tv = tyVal G.ca k → rIsi G.K [v, cv] H1 Q := fun tv ty etv => by
          subst etv
          exact ⟨v, cv, _, u, b, rfl, t.cls, ty, e, Post.ok g.rel q _ rfl⟩
        cases w with
        | non => cases ek; simp only [RU] at r; subst r; exact .inl (fin _ (.base .non) rfl)
        | bl x => cases ek; simp only [RU] at r; subst r; exact .inl (fin _ (.base (.bl x)) rfl)
        | int x => cases ek; simp only [RU] at r; subst r; exact .inl (fin _ (.base (.int x)) rfl)
        | str x => cases ek; simp only [RU] at r; subst r; exact .inl (fin _ (.base (.str x)) rfl)
        | tup ws =>
          cases ek
          simp only [RU] at r
          obtain ⟨a, xs, rfl, st, _⟩ := r
          rcases st with (st | ⟨o, st⟩) | ⟨o, its, n, hk, hc, _⟩
          · exact .inl (fin _ (.base (.tup st)) rfl)
          · exact .inl (fin _ (.fTuple st) rfl)
          · exact .inl (fin _ (.kTuple hk hc) rfl)
        | ref i =>
          simp only [RU] at r
          obtain ⟨hi, rfl⟩ := r
          unfold tyK at ek
          simp only at ek
          split at ek
          · rename_i ws ec
            cases ek
            obtain ⟨xs, ea, _⟩ := g.rel.cell i _ ec
            exact .inl (fin _ (.base (.lst ea)) rfl)
          · rename_i c fs ec
            cases ek
            obtain ⟨dx, gs, ea, _⟩ := g.rel.cell i _ ec
            have z := t.ins c b eb
            exact .inl (fin _ (.base (.ins ea z.cl z.ha z.hn z.htk z.hm)) rfl)
          · rename_i c fs ec
            cases ek
            obtain ⟨cls, d, ea, ecl, rx⟩ := g.rel.cell i _ ec
            subst ecl
            refine .inr ⟨_, _, d, cv, u, b, rfl, t.cls, ea, ?_, t.exc c b eb, e, Post.ok g.rel q _ rfl⟩
            rcases rx with ⟨_, rfl⟩ | ⟨dd, gs, rfl, ed, _⟩
            · exact .inl rfl
            · exact .inr ⟨dd, gs, rfl, ed⟩
          · cases ek
      · exact False.elim q
    · exact False.elim q⟩

/-! ### try: body, except c as n (slot i): suite -/
def tryEnd (i : Nat) : Option Sz → Option Sz
  | some (.nx ρ h) => some (.nx (ρ.set i none) h)
  | some (.bk ρ h) => some (.bk (ρ.set i none) h)
  | some (.ct ρ h) => some (.ct (ρ.set i none) h)
  | r => r
def mTry (tab : Nat → Option Bool) (i : Nat) (body suite : MS) : MS := fun ρ h => match body ρ h with
  | some (.ex c fs ρ1 h1) => match tab c with
    | some true => match suite (ρ1.set i (some (.ref h1.length))) (h1 ++ [.exc c fs]) with
      | some (.ex _ _ _ _) => none
      | r => tryEnd i r
    | some false => some (.ex c fs ρ1 h1)
    | none => none
  | r => r
/-- the clause's class: whom it takes -/
def TakC (G : Gm) (tab : Nat → Option Bool) (c : Value) : Prop := ∀ k b, tab k = some b → PySem.W.exmOne G.K (.ref (G.ca k)) c = some b
theorem w_try {tab : Nat → Option Bool} {c : Value} {i : Nat} {body suite : MS} (t : TakC G tab c) : ∀ D σ H, tS G Wx (mTry tab i body suite) D σ H → tS G (wAsT G.K c i (tS G (fun _ _ _ _ => False) suite) Wx D) body D σ H := fun D σ H ⟨μ, ρ, h, s, p⟩ => by
  refine ⟨μ, ρ, h, s, ?_⟩
  unfold mTry at p
  cases e : body ρ h with
  | none => rw [e] at p; exact p
  | some r =>
    rw [e] at p
    cases r with
    | nx ρ1 h1 => exact p
    | rt w h1 => exact p
    | bk ρ1 h1 => exact p
    | ct ρ1 h1 => exact p
    | ex k fs ρ1 h1 =>
      intro μ1 σ1 H1 cls d g1 s1 rx
      simp only at p
      cases et : tab k with
      | none => rw [et] at p; exact False.elim p
      | some b =>
        rw [et] at p
        obtain ⟨ecl, rx2⟩ := id rx
        refine ⟨b, by rw [ecl]; exact t k b et, fun hb a na => ?_, fun hb => ?_⟩
        · subst hb
          simp only at p
          have hn : RCell G (nu μ1 h1.length a) (h1.length + 1) (upd H1 a (ExV cls d a)) a (.exc k fs) := by
            refine ⟨cls, d, upd_same, ecl, ?_⟩
            rcases rx2 with q | ⟨dd, gs, e1, e2, q⟩
            · exact .inl q
            · exact .inr ⟨dd, gs, e1, by rw [upd_ne (ne_of_none e2 na)]; exact e2, RFs.mono (fun i hi => nu_old hi) (Nat.le_succ _) (TS0.fresh na) _ _ q⟩
          have g2 := Gr.new (o := ExV cls d a) (c := .exc k fs) s1.rel na hn
          have s2 := (s1.on g2).set (w := .ref h1.length) (v := .ref a) i (by simp only [RU]; exact ⟨by simp, by rw [nu_new]⟩)
          refine ⟨_, _, _, s2, ?_⟩
          have g12 := g1.trans g2
          cases e3 : suite (ρ1.set i (some (.ref h1.length))) (h1 ++ [.exc k fs]) with
          | none => rw [e3] at p; exact False.elim p
          | some r3 =>
            rw [e3] at p
            cases r3 with
            | nx ρ3 h3 => exact fun μ4 σ4 H4 g4 s4 => p μ4 _ H4 (g12.trans g4) (s4.unset i)
            | bk ρ3 h3 => exact fun μ4 σ4 H4 g4 s4 => p μ4 _ H4 (g12.trans g4) (s4.unset i)
            | ct ρ3 h3 => exact fun μ4 σ4 H4 g4 s4 => p μ4 _ H4 (g12.trans g4) (s4.unset i)
            | rt w h3 => exact fun μ4 H4 v g4 r4 => p μ4 H4 v (g12.trans g4) r4
            | ex k3 fs3 ρ3 h3 => exact False.elim p
        · subst hb
          exact p μ1 σ1 H1 cls d g1 s1 rx

/-! ### raise C(..): C an own error -/
/-- the fields by the arguments (the last stored first); new objects come behind -/
abbrev MX := List U → Hm → Option (List (Str × U) × Hm)
def mRaise (c : Nat) (mk : MX) (es : MA) : MS := fun ρ h => bndS ρ (es ρ h) fun ws h1 => match mk ws h1 with
  | some (fs, h2) => some (.ex c fs ρ h2)
  | none => none
/-- the cells of exceptions that stood before -/
def ExcOff (μ : Nat → Addr) (h : Hm) (a : Addr) : Prop := ∀ (i : Nat) c fs, h[i]? = some (.exc c fs) → μ i ≠ a
/-- the promise of such an __init__ -/
def spX (G : Gm) (c n : Nat) (mk : MX) : Sp := fun vs H Q E => ∃ a xs μ h ws fs h2, vs = .ref a :: xs ∧ xs.length = n ∧ H a = some (exo a (G.ca c) none) ∧ HRel G μ h H ∧ ExcOff μ h a ∧ RUs G.K μ h.length H ws xs ∧ mk ws h = some (fs, h2) ∧
  ∀ μ' H' d gs, Gr G μ h H μ' h2 H' → H' a = some (exo a (G.ca c) none) → ExcOff μ' h2 a → H' d = none → d ≠ a → (∀ b, H b ≠ none → H' b ≠ none) → RFs G.K μ' h2.length H' fs gs → Q .non (upd (upd H' d (exd d gs)) a (exo a (G.ca c) (some d)))
theorem exo_nt {e C : Addr} {d : Option Addr} : Wr (exo e C d) = false := rfl
theorem w_raise {c n : Nat} {mk : MX} {es : MA} (al : AL es n) (hn : n ≤ 1000) : ∀ D σ H, tS G Wx (mRaise c mk es) D σ H → (fun (_ : Ends) σ H => tMkO (G.ca c) (spX G c n mk) [] (tA G Wx es) σ H fun cls d H' => Wx cls d σ H') D σ H := fun D σ H ⟨μ, ρ, h, s, p⟩ =>
  ⟨μ, ρ, h, s, (PostS.bnd s p).withEq.mono fun μ1 h1 H1 ws g ⟨q, eq⟩ vs rs => by
    refine ⟨by rw [RUs.length rs, al _ _ _ _ eq]; exact hn, fun a na => ?_⟩
    cases em : mk ws h1 with
    | none => rw [em] at q; exact False.elim q
    | some fh =>
      obtain ⟨fs, h2⟩ := fh
      rw [em] at q
      simp only at q
      have r1 : HRel G μ1 h1 (upd H1 a (exo a (G.ca c) none)) := g.rel.fresh na
      have off : ExcOff μ1 h1 a := fun i k fs e z => by
        obtain ⟨cls, d, ea, _⟩ := g.rel.cell i _ e
        rw [z, na] at ea
        cases ea
      rw [List.append_nil]
      refine ⟨a, vs, μ1, h1, ws, fs, h2, rfl, (RUs.length rs).trans (al _ _ _ _ eq), upd_same, r1, off, rs.same (TS0.fresh na), em, fun μ' H' d gs g' ha off' nd da kk rf => ?_⟩
      have hd1 : H1 d = none := by
        cases z : H1 d with
        | none => rfl
        | some o => exact absurd nd (kk d (by rw [upd_ne da, z]; simp))
      refine ⟨rfl, d, gs, upd_same, by rw [upd_ne da, upd_same], hd1, ?_⟩
      -- the heap behind it
      have e3 : upd (del (upd (upd H' d (exd d gs)) a (exo a (G.ca c) (some d))) a) d (.xd gs) = upd (del H' a) d (.xd gs) := by
        funext b
        by_cases hb : b = d
        · subst hb; rw [upd_same, upd_same]
        · rw [upd_ne hb, upd_ne hb]
          by_cases hb2 : b = a
          · subst hb2; rw [del_same, del_same]
          · rw [del_ne hb2, del_ne hb2, upd_ne hb2, upd_ne hb]
      rw [e3]
      have kp : ∀ b u, b ≠ a → H' b = some u → upd (del H' a) d (.xd gs) b = some u := fun b u hb z => by
        rw [upd_ne (ne_of_none z nd), del_ne hb]
        exact z
      have nex : ∀ b u, H' b = some u → (∀ φ, u ≠ .ext φ) → b ≠ a := fun b u z y q => by
        rw [q, ha] at z
        cases z
        exact y _ rfl
      have ts : TS0 G.K H' (upd (del H' a) d (.xd gs)) := fun b xs st => by
        rcases st with (st | ⟨o, st⟩) | st
        · exact .inl (.inl (kp b _ (nex b _ st fun φ => by simp) st))
        · exact .inl (.inr ⟨o, kp b _ (nex b _ st fun φ => by simp) st⟩)
        · exact .inr st
      have rel3 : HRel G μ' h2 (upd (del H' a) d (.xd gs)) := by
        refine ⟨fun i e z => ?_, g'.rel.inj⟩
        have rc := g'.rel.cell i e z
        cases e with
        | lst us => obtain ⟨xs, q1, q2⟩ := rc; exact ⟨xs, kp _ _ (nex _ _ q1 fun φ => by simp) q1, q2.same ts⟩
        | ins k us => obtain ⟨dx, xs, q1, q2⟩ := rc; exact ⟨dx, xs, kp _ _ (nex _ _ q1 fun φ => by simp) q1, RFs.mono (fun _ _ => rfl) (Nat.le_refl _) ts _ _ q2⟩
        | frz us =>
          obtain ⟨xs, q1, q2⟩ := rc
          refine ⟨xs, ?_, q2.same ts⟩
          rcases q1 with ⟨o, q1⟩ | q1
          · exact .inl ⟨o, kp _ _ (nex _ _ q1 fun φ => by simp) q1⟩
          · exact .inr q1
        | exc k us =>
          obtain ⟨cls, dd, q1, q2, q3⟩ := rc
          refine ⟨cls, dd, kp _ _ (off' i k us z) q1, q2, ?_⟩
          rcases q3 with q3 | ⟨d1, ys, y1, y2, y3⟩
          · exact .inl q3
          · exact .inr ⟨d1, ys, y1, kp _ _ (nex _ _ y2 fun φ => by simp) y2, RFs.mono (fun _ _ => rfl) (Nat.le_refl _) ts _ _ y3⟩
      have ts1 : TS0 G.K H1 (upd (del H' a) d (.xd gs)) := (TS0.fresh (o := exo a (G.ca c) none) na).trans (g'.tup.trans ts)
      have gg : Gr G μ1 h1 H1 μ' h2 (upd (del H' a) d (.xd gs)) := ⟨g'.len, g'.mu, ts1, rel3⟩
      exact q μ' σ _ _ _ gg ((s.on g).on gg) ⟨rfl, .inr ⟨d, gs, rfl, upd_same, RFs.mono (fun _ _ => rfl) (Nat.le_refl _) ts _ _ rf⟩⟩⟩
end
end ML

set_option maxHeartbeats 4000000
namespace ML
open PySem L2
/-! ### __init__ of the own errors: super().__init__(text); self.f = p -/
section
variable {X : Cx} {x : Str} {pos : Pos} {i : Nat}
theorem pvS (hN : X.N[i]? = some x) (hv : X.env.scope.names.lookup x = some .local) (hd : (x == ("__debug__" : Str)) = false) (hcd : (x == ("__classdict__" : Str)) = false) : PE X (.Name x pos) (tVar i) := pe_var hN (.inl hv) hd hcd
end
def mk1 (f : Str) : MX := fun ws h => match ws with
  | [w] => some ([(f, w)], h)
  | _ => none
def mk2 (f1 f2 : Str) : MX := fun ws h => match ws with
  | [w, u] => some ([(f2, u), (f1, w)], h)
  | _ => none
/-- the first argument is written into the message -/
def mk2s (f1 f2 : Str) : MX := fun ws h => match ws with
  | [.str s, u] => if s.length ≤ LIM then some ([(f2, u), (f1, .str s)], h) else none
  | _ => none
/-- the second argument is written into the message -/
def mk2t (f1 f2 : Str) : MX := fun ws h => match ws with
  | [w, .str s] => if s.length ≤ LIM then some ([(f2, .str s), (f1, w)], h) else none
  | _ => none
theorem rf1 {K : PySem.W.Frag} {μ : Nat → Addr} {n : Nat} {H : Hp} {f : Str} {w : U} {v : V} (r : RU K μ n H w v) : RFs K μ n H [(f, w)] [(f, v)] := by
  simp only [RFs]
  exact ⟨v, [], rfl, r, rfl⟩
theorem rf2 {K : PySem.W.Frag} {μ : Nat → Addr} {n : Nat} {H : Hp} {f g : Str} {w u : U} {v y : V} (r : RU K μ n H w v) (q : RU K μ n H u y) : RFs K μ n H [(f, w), (g, u)] [(f, v), (g, y)] := by
  simp only [RFs]
  exact ⟨v, _, rfl, r, y, [], rfl, q, rfl⟩
theorem heap2 {H : Hp} {a d C : Addr} {o1 o2 : HO} (hd : d ≠ a) : upd (upd (upd H d o1) a (exo a C (some d))) d o2 = upd (upd H d o2) a (exo a C (some d)) := by
  funext b
  by_cases hb : b = d
  · subst hb
    rw [upd_same, upd_ne hd, upd_same]
  · rw [upd_ne hb]
    by_cases hb2 : b = a
    · subst hb2; rw [upd_same, upd_same]
    · rw [upd_ne hb2, upd_ne hb2, upd_ne hb, upd_ne hb]
theorem HRel.freshx {G : Gm} {μ : Nat → Addr} {h : Hm} {H : Hp} (r : HRel G μ h H) : Gr G μ h H μ h H := Gr.refl r

section
variable {G : Gm} {CX : CXT} {P : Program} {w : World} {mg : Str → Option Value} {base : Heap} {k : Nat} {f cc cda : Addr} {c : Nat} {name qual : Str} {params : Arguments} {e : Expr} {p0 p1 p2 p3 p4 q1 q2 q3 q4 q5 q6 q7 q8 : Pos} {scope : Scope} {dV kV doc pm ct oc : Value} {an od : Option Addr}
    {osl : Array (Option Value)} {ps : List Str}
/-- the message: a text -/
def Msg (X : Cx) (ps : List Str) (e : Expr) (ok : List U → Prop) (G : Gm) : Prop := ∀ μ h H ws vs, HRel G μ h H → RUs G.K μ h.length H ws vs → ok ws → ∀ a : V, ∃ te, PE X e te ∧ ∀ Q : VK, (∀ m, Q (.str m) H) → te (L2.start ps (a :: vs)) H Q

variable {pn : Str} {fn : Str}
theorem init_one (lk : G.K.lookup f = some ⟨oc, od, .func (PySem.W.ksFn name qual params [.Expr (.Call (.Attribute (.Call (.Name "super" p0) [] [] p1) "__init__" p2) [e] [] p3) p4, .Assign [.Attribute (.Name "self" q1) fn q2] (.Name pn q3) q4] scope dV kV doc pm an (.ref cda) ct cc), osl⟩)
    (T : SupTxt G.K mg (G.ca c) f cc cda qual) (S : SupScope ["self", pn] ["self", pn] scope) (hfile : ((P.main.file : Str) == ("/claim/cut.py" : Str)) = true) (htop : (P.main.scope.names.lookup ("super" : Str)).isSome = false)
    (har : ∃ ar : Arg, (params.posonlyargs ++ params.args).head? = some ar ∧ ([("self" : Str), pn]).head? = some ar.arg)
    (hswap : ∀ env : Env, swapsWith (.Call (.Attribute (.Call (.Name "super" p0) [] [] p1) "__init__" p2) [e] [] p3) none p4.line env = pure false)
    (hmeth : ∀ env : Env, eval (.Call (.Attribute (.Call (.Name "super" p0) [] [] p1) "__init__" p2) [e] [] p3) env = (do
      let ov ← attributeBase (.Call (.Name "super" p0) [] [] p1) "__init__" env (eval (.Call (.Name "super" p0) [] [] p1) env)
      standAt p2.atName
      let (f, first) ← holding [ov] (getMethod ov "__init__" (pure false))
      callWith p3 f first (backTo p3 (starEach [e] env)) []))
    (hstar : ∀ env : Env, starEach [e] env = (false, eval e env) :: starEach [] env)
    (hpn : (pn == ("__debug__" : Str)) = false ∧ (pn == ("__classdict__" : Str)) = false) (hfn : PySem.W.findIn G.K (.ref (G.ca c)) fn = some none) {ok : List U → Prop} {mk : MX} (hmk : ∀ ws h r, mk ws h = some r → ok ws ∧ mk1 fn ws h = some r)
    (msg : ∀ A outer s H E, Msg (cxS CX P w G.K mg base ["self", pn] qual scope f (.ref cda) cc A outer s H E) ["self", pn] e ok G) :
    FnOk P w G.K mg base CX (k + 1) f (PySem.W.ksFn name qual params [.Expr (.Call (.Attribute (.Call (.Name "super" p0) [] [] p1) "__init__" p2) [e] [] p3) p4, .Assign [.Attribute (.Name "self" q1) fn q2] (.Name pn q3) q4] scope dV kV doc pm an (.ref cda) ct cc) ["self", pn] (spX G c 1 mk) := by
  refine fnS_of lk T S hfile htop har (fun vs H Q E z => ?_) hswap hmeth hstar fun A outer s H vs Q E hr hsp => ?_
  · obtain ⟨a, xs, μ, h, ws, fs, h2, rfl, hl, _⟩ := z
    simp [hl]
  · obtain ⟨a, xs, μ, h, ws, fs, h2, rfl, hl, ha, rel, off, rs, em, q⟩ := hsp
    obtain ⟨hok, em⟩ := hmk _ _ _ em
    obtain ⟨te, hpe, hte⟩ := msg A outer s H E μ h H ws xs rel rs hok (.ref a)
    unfold mk1 at em
    split at em
    · rename_i w0
      cases em
      obtain ⟨v0, rfl, rv⟩ := rus1 rs
      refine ⟨a, te, _, rfl, ha, hpe, pss_one (ps_ost (pvS (i := 0) rfl (S.par _ (by simp)) (by decide) (by decide)) (pvS (i := 1) rfl (S.par _ (by simp)) hpn.1 hpn.2) (by rfl)), hte _ fun m => ⟨ha, ?_⟩⟩
      refine ⟨v0, rfl, .ref a, rfl, a, G.ca c, rfl, T.ox, hfn, .inl ⟨ha, fun dx nd da => ?_⟩⟩
      exact q μ H dx [(fn, v0)] (Gr.refl rel) ha off nd da (fun b z => z) (rf1 rv)
    · cases em
variable {pn2 fn2 : Str}
theorem init_two (lk : G.K.lookup f = some ⟨oc, od, .func (PySem.W.ksFn name qual params [.Expr (.Call (.Attribute (.Call (.Name "super" p0) [] [] p1) "__init__" p2) [e] [] p3) p4, .Assign [.Attribute (.Name "self" q1) fn q2] (.Name pn q3) q4, .Assign [.Attribute (.Name "self" q5) fn2 q6] (.Name pn2 q7) q8] scope dV kV doc pm an (.ref cda) ct cc), osl⟩)
    (T : SupTxt G.K mg (G.ca c) f cc cda qual) (S : SupScope ["self", pn, pn2] ["self", pn, pn2] scope) (hfile : ((P.main.file : Str) == ("/claim/cut.py" : Str)) = true) (htop : (P.main.scope.names.lookup ("super" : Str)).isSome = false)
    (har : ∃ ar : Arg, (params.posonlyargs ++ params.args).head? = some ar ∧ ([("self" : Str), pn, pn2]).head? = some ar.arg)
    (hswap : ∀ env : Env, swapsWith (.Call (.Attribute (.Call (.Name "super" p0) [] [] p1) "__init__" p2) [e] [] p3) none p4.line env = pure false)
    (hmeth : ∀ env : Env, eval (.Call (.Attribute (.Call (.Name "super" p0) [] [] p1) "__init__" p2) [e] [] p3) env = (do
      let ov ← attributeBase (.Call (.Name "super" p0) [] [] p1) "__init__" env (eval (.Call (.Name "super" p0) [] [] p1) env)
      standAt p2.atName
      let (f, first) ← holding [ov] (getMethod ov "__init__" (pure false))
      callWith p3 f first (backTo p3 (starEach [e] env)) []))
    (hstar : ∀ env : Env, starEach [e] env = (false, eval e env) :: starEach [] env)
    (hpn : (pn == ("__debug__" : Str)) = false ∧ (pn == ("__classdict__" : Str)) = false) (hpn2 : (pn2 == ("__debug__" : Str)) = false ∧ (pn2 == ("__classdict__" : Str)) = false)
    (hfn : PySem.W.findIn G.K (.ref (G.ca c)) fn = some none) (hfn2 : PySem.W.findIn G.K (.ref (G.ca c)) fn2 = some none) {ok : List U → Prop} {mk : MX} (hmk : ∀ ws h r, mk ws h = some r → ok ws ∧ mk2 fn fn2 ws h = some r)
    (msg : ∀ A outer s H E, Msg (cxS CX P w G.K mg base ["self", pn, pn2] qual scope f (.ref cda) cc A outer s H E) ["self", pn, pn2] e ok G) :
    FnOk P w G.K mg base CX (k + 1) f (PySem.W.ksFn name qual params [.Expr (.Call (.Attribute (.Call (.Name "super" p0) [] [] p1) "__init__" p2) [e] [] p3) p4, .Assign [.Attribute (.Name "self" q1) fn q2] (.Name pn q3) q4, .Assign [.Attribute (.Name "self" q5) fn2 q6] (.Name pn2 q7) q8] scope dV kV doc pm an (.ref cda) ct cc) ["self", pn, pn2] (spX G c 2 mk) := by
  refine fnS_of lk T S hfile htop har (fun vs H Q E z => ?_) hswap hmeth hstar fun A outer s H vs Q E hr hsp => ?_
  · obtain ⟨a, xs, μ, h, ws, fs, h2, rfl, hl, _⟩ := z
    simp [hl]
  · obtain ⟨a, xs, μ, h, ws, fs, h2, rfl, hl, ha, rel, off, rs, em, q⟩ := hsp
    obtain ⟨hok, em⟩ := hmk _ _ _ em
    obtain ⟨te, hpe, hte⟩ := msg A outer s H E μ h H ws xs rel rs hok (.ref a)
    unfold mk2 at em
    split at em
    · rename_i w0 w1
      cases em
      obtain ⟨v0, v1, rfl, rv, rv1⟩ := rus2 rs
      refine ⟨a, te, _, rfl, ha, hpe, pss_cons (ps_ost (pvS (i := 0) rfl (S.par _ (by simp)) (by decide) (by decide)) (pvS (i := 1) rfl (S.par _ (by simp)) hpn.1 hpn.2) (by rfl))
        (pss_one (ps_ost (pvS (i := 0) rfl (S.par _ (by simp)) (by decide) (by decide)) (pvS (i := 2) rfl (S.par _ (by simp)) hpn2.1 hpn2.2) (by rfl))), hte _ fun m => ⟨ha, ?_⟩⟩
      refine ⟨v0, rfl, .ref a, rfl, a, G.ca c, rfl, T.ox, hfn, .inl ⟨ha, fun dx nd da => ?_⟩⟩
      refine ⟨v1, rfl, .ref a, rfl, a, G.ca c, rfl, T.ox, hfn2, .inr ⟨dx, [(fn, v0)], upd_same, by rw [upd_ne da, upd_same], by simp, ?_⟩⟩
      show Q .non (upd (upd (upd H dx (exd dx [(fn, v0)])) a (exo a (G.ca c) (some dx))) dx (exd dx [(fn2, v1), (fn, v0)]))
      rw [heap2 da]
      exact q μ H dx [(fn2, v1), (fn, v0)] (Gr.refl rel) ha off nd da (fun b z => z) (rf2 rv1 rv)
    · cases em
/-- a written message -/
theorem msg_const {X : Cx} {m : Str} {j : Nat} {p : Pos} : Msg X ps (.Constant (.str m) j p) (fun _ => True) G := fun μ h H ws vs _ _ _ a => ⟨_, pe_str, fun Q q => q m⟩
/-- f'text{p}', p the i-th parameter -/
theorem msg_f {X : Cx} {m : Str} {j i : Nat} {p p' p'' p3 : Pos} {x : Str} (hN : X.N[i + 1]? = some x) (hv : X.env.scope.names.lookup x = some .local) (hd : (x == ("__debug__" : Str)) = false) (hcd : (x == ("__classdict__" : Str)) = false) (hm : m.length ≤ 1000) :
    Msg X ps (.JoinedStr [.Constant (.str m) j p, .FormattedValue (.Name x p') (-1) none p''] p3) (fun ws => ∃ s, ws[i]? = some (.str s) ∧ s.length ≤ LIM) G := fun μ h H ws vs rel rs ok a => by
  obtain ⟨s, es, hs⟩ := ok
  obtain ⟨v, ev, rv⟩ := RUs.get rs es
  simp only [RU] at rv
  subst rv
  refine ⟨_, pe_joined (.cons pe_str (.cons (pe_fmt (pvS hN hv hd hcd)) .nil)), fun Q q => ?_⟩
  have hl : i < vs.length := (List.getElem?_eq_some_iff.mp ev).1
  refine ⟨m, rfl, by rw [Str.length_append]; show 0 + m.length ≤ sizeLine; exact Nat.le_trans (by omega) (show 1000 ≤ sizeLine by decide), .str s, ?_, .inl ⟨s, rfl, lim_le hs, s, rfl, ?_, q _⟩⟩
  · unfold L2.start
    rw [List.map_cons, List.cons_append, List.getElem?_cons_succ, List.getElem?_append_left (by simpa using hl), List.getElem?_map, ev]
    rfl
  · rw [Str.length_append, Str.length_append]
    show 0 + m.length + s.length ≤ sizeLine
    have : s.length ≤ 1000000 := hs
    exact Nat.le_trans (by omega) (show 1001000 ≤ sizeLine by decide)
end
end ML

set_option maxHeartbeats 4000000
namespace ML
open PySem L2
section
variable {G : Gm} {Wx : WX} {μ μ' : Nat → Addr} {h h' : Hm} {H H' : Hp} {ρ : Ev} {σ : L2.St}
abbrev W0 : WX := fun _ _ _ _ => False
/-- what raises has no value -/
def noEx {α : Type} : Option (Rz α) → Option (Rz α)
  | some (.ok a h) => some (.ok a h)
  | _ => none
theorem Post.noEx {α : Type} {P : (Nat → Addr) → Hm → Hp → α → Prop} {E E' : XK} {x : Option (Rz α)} (p : Post G P E μ h H (noEx x)) : Post G P E' μ h H x := by
  cases x with
  | none => exact p
  | some r =>
    cases r with
    | ok a h1 => exact p
    | ex c fs h1 => exact False.elim p
def wipeE (ρ : Ev) : List Nat → Ev
  | [] => ρ
  | v :: vs => (wipeE ρ vs).set v none
theorem StOk.wipe (s : StOk G μ ρ h σ H) : ∀ vs : List Nat, StOk G μ (wipeE ρ vs) h (L2.wipe σ vs) H
  | [] => s
  | v :: vs => (StOk.wipe s vs).unset v
theorem set_comm {α : Type} (l : List α) (i j : Nat) (a b : α) (hij : i ≠ j) : (l.set i a).set j b = (l.set j b).set i a := by
  rw [List.set_comm _ _ hij]
theorem wipe_set {σ : L2.St} {i : Nat} {x : V} : ∀ {vs : List Nat}, i ∈ vs → L2.wipe (σ.set i (some x)) vs = L2.wipe σ vs := by
  intro vs
  induction vs generalizing σ with
  | nil => intro h; cases h
  | cons v vs ih =>
    intro hm
    unfold L2.wipe
    by_cases hv : i ∈ vs
    · rw [ih hv]
    · have e : i = v := by
        rcases List.mem_cons.mp hm with e | e
        · exact e
        · exact absurd e hv
      subst e
      have : ∀ (ws : List Nat), i ∉ ws → L2.wipe (σ.set i (some x)) ws = (L2.wipe σ ws).set i (some x) := by
        intro ws
        induction ws with
        | nil => intro _; rfl
        | cons u us ih2 =>
          intro hu
          simp only [List.mem_cons, not_or] at hu
          unfold L2.wipe
          rw [ih2 hu.2, List.set_comm _ _ hu.1]
      rw [this vs hv, List.set_set]
theorem wipe_wipe {σ : L2.St} (vs : List Nat) : L2.wipe (L2.wipe σ vs) vs = L2.wipe σ vs := by
  have key : ∀ (ws : List Nat) (τ : L2.St), (∀ v ∈ ws, v < τ.length → τ[v]? = some none) → L2.wipe τ ws = τ := by
    intro ws
    induction ws with
    | nil => intro τ _; rfl
    | cons u us ih =>
      intro τ h
      unfold L2.wipe
      rw [ih τ fun v hv => h v (List.mem_cons_of_mem _ hv)]
      by_cases hu : u < τ.length
      · have := h u List.mem_cons_self hu
        apply List.ext_getElem?
        intro j
        by_cases hj : u = j
        · subst hj; rw [List.getElem?_set_self hu, this]
        · rw [List.getElem?_set_ne hj]
      · rw [List.set_eq_of_length_le (by omega)]
  have none_at : ∀ (ws : List Nat) (τ : L2.St) v, v ∈ ws → v < (L2.wipe τ ws).length → (L2.wipe τ ws)[v]? = some none := by
    intro ws
    induction ws with
    | nil => intro τ v h; cases h
    | cons u us ih =>
      intro τ v hv hl
      unfold L2.wipe at hl ⊢
      rw [List.length_set] at hl
      by_cases hj : u = v
      · subst hj; rw [List.getElem?_set_self hl]
      · rw [List.getElem?_set_ne hj]
        rcases List.mem_cons.mp hv with e | e
        · exact absurd e.symm hj
        · exact ih τ v e hl
  exact key vs _ fun v hv hl => none_at vs σ v hv hl
/-- a target of plain names -/
inductive NT where
  | one (i : Nat)
  | tup (is : List Nat)
def setAll : List Nat → List U → Ev → Option Ev
  | [], [], ρ => some ρ
  | i :: is, w :: ws, ρ => setAll is ws (ρ.set i (some w))
  | _, _, _ => none
def NT.set : NT → U → Ev → Option Ev
  | .one i, w, ρ => some (ρ.set i (some w))
  | .tup is, .tup ws, ρ => setAll is ws ρ
  | _, _, _ => none
def gNm : List Nat → TGs
  | [] => gNil
  | i :: is => gCons (gName i) (gNm is)
def NT.tg (K : PySem.W.Frag) : NT → TG
  | .one i => gName i
  | .tup is => gTup K is.length (gNm is)
def NT.vs : NT → List Nat
  | .one i => [i]
  | .tup is => is
theorem setAll_ok : ∀ (is : List Nat) {ws : List U} {xs : List V} {ρ ρ1 : Ev} {τ : L2.St} {vs : List Nat} {F : L2.St → Hp → Prop}, setAll is ws ρ = some ρ1 → RUs G.K μ h.length H ws xs → StOk G μ ρ h τ H → (∀ i ∈ is, i ∈ vs) →
    (∀ τ1, StOk G μ ρ1 h τ1 H → L2.wipe τ1 vs = L2.wipe τ vs → F τ1 H) → gNm is xs τ H F
  | [], ws, xs, ρ, ρ1, τ, vs, F, e, r, s, hv, k => by
    cases ws with
    | nil =>
      cases e
      simp only [RUs] at r
      subst r
      exact ⟨rfl, k τ s rfl⟩
    | cons _ _ => cases e
  | i :: is, ws, xs, ρ, ρ1, τ, vs, F, e, r, s, hv, k => by
    cases ws with
    | nil => cases e
    | cons w ws =>
      simp only [RUs] at r
      obtain ⟨y, ys, rfl, r1, rs⟩ := r
      refine ⟨y, ys, rfl, ?_⟩
      show gNm is ys (τ.set i (some y)) H F
      refine setAll_ok is e rs (s.set i r1) (fun j hj => hv j (List.mem_cons_of_mem _ hj)) fun τ1 s1 e1 => k τ1 s1 (by rw [e1, wipe_set (hv i List.mem_cons_self)])
theorem NT.ok {t : NT} {w : U} {x : V} {ρ ρ1 : Ev} {τ : L2.St} {vs : List Nat} {F : L2.St → Hp → Prop} (e : t.set w ρ = some ρ1) (r : RU G.K μ h.length H w x) (s : StOk G μ ρ h τ H) (hv : ∀ i ∈ t.vs, i ∈ vs)
    (k : ∀ τ1, StOk G μ ρ1 h τ1 H → L2.wipe τ1 vs = L2.wipe τ vs → F τ1 H) : t.tg G.K x τ H F := by
  cases t with
  | one i =>
    cases e
    exact k _ (s.set i r) (wipe_set (hv i (by simp [NT.vs])))
  | tup is =>
    cases w <;> first | (cases e; done) | skip
    rename_i ws
    simp only [RU] at r
    obtain ⟨a, xs, rfl, st, rs⟩ := r
    have hl : xs.length = is.length := by
      have : ∀ (is : List Nat) (ws : List U) (ρ : Ev) ρ1, setAll is ws ρ = some ρ1 → ws.length = is.length := by
        intro is
        induction is with
        | nil => intro ws ρ ρ1 e; cases ws <;> first | rfl | cases e
        | cons i is ih => intro ws ρ ρ1 e; cases ws with
          | nil => cases e
          | cons w ws => simp [ih ws _ _ e]
      rw [RUs.length rs]
      exact this is ws ρ ρ1 e
    exact ⟨a, xs, rfl, st, hl, setAll_ok is e rs s hv k⟩

open Classical in
noncomputable def lcGo (chk : Hm → Prop) (t : NT) (tt : MT) (te : ME) (ρ : Ev) (D : Nat) : List U → Hm → Option (Rz U)
  | [], h => if chk h then some (.ok (.ref D) h) else none
  | w :: ws, h => if chk h then match t.set w ρ with
    | none => none
    | some ρ1 => bnd (noEx (tt ρ1 h)) fun b h2 => if b = true then bnd (noEx (te ρ1 h2)) fun y h3 => match h3[D]? with
        | some (.lst acc) => if acc.length < LIM then lcGo chk t tt te ρ D ws (h3.set D (.lst (acc ++ [y]))) else none
        | _ => none
      else lcGo chk t tt te ρ D ws h2
    else none
noncomputable def mLc (it : MI) (t : NT) (tt : MT) (te : ME) (vs : List Nat) : ME := fun ρ h => bnd (it ρ h) fun a h1 => lcGo a.2 t tt te (wipeE ρ vs) h1.length a.1 (h1 ++ [.lst []])
theorem w_lc {it : MI} {t : NT} {tt : MT} {te : ME} {vs : List Nat} (hv : ∀ i ∈ t.vs, i ∈ vs) : ∀ σ H Q, tE G Wx (mLc it t tt te vs) σ H Q → tLc (tI G Wx it) (t.tg G.K) (tT G W0 tt) (tE G W0 te) vs σ H Q := fun σ H Q ⟨μ, ρ, h, s, p⟩ =>
  ⟨μ, ρ, h, s, (Post.bnd p).mono fun μ1 h1 H1 a g1 q J gv D nD => by
    have gD := Gr.new (o := .lst []) (c := .lst []) g1.rel nD ⟨[], upd_same, RUs.nil⟩
    have sW := ((s.on g1).wipe vs)
    have hlD : h1.length < (h1 ++ [Cell.lst []]).length := by simp
    refine ⟨fun i m H => m = a.1.length - i ∧ i ≤ a.1.length ∧ ∃ μ2 h2, Gr G (nu μ1 h1.length D) (h1 ++ [.lst []]) (upd H1 D (.lst [])) μ2 h2 H ∧ Post G (PV G Q) (fun cls d H' => Wx cls d σ H') μ2 h2 H (lcGo a.2 t tt te (wipeE ρ vs) h1.length (a.1.drop i) h2),
      ⟨a.1.length, by simp, Nat.zero_le _, _, _, Gr.refl gD.rel, by rw [List.drop_zero]; exact q.on gD⟩, ?_⟩
    rintro i m H2 ⟨rfl, hi, μ2, h2, g2, p2⟩
    have g12 := gD.trans g2
    have em : μ2 h1.length = D := by rw [g2.mu _ hlD, nu_new]
    by_cases hlt : i < a.1.length
    · have hd : a.1.drop i = a.1[i] :: a.1.drop (i + 1) := List.drop_eq_getElem_cons hlt
      rw [hd] at p2
      unfold lcGo at p2
      by_cases hc : a.2 h2
      · rw [if_pos hc] at p2
        obtain ⟨_, gi⟩ := gv i μ2 h2 H2 g12 hc
        obtain ⟨go, yl⟩ := gi a.1[i] (by simp [hlt])
        cases e1 : t.set a.1[i] (wipeE ρ vs) with
        | none => rw [e1] at p2; exact False.elim p2
        | some ρ1 =>
          rw [e1] at p2
          simp only at p2
          refine .inr ⟨go, fun H' => ∃ μ2 h2, Gr G (nu μ1 h1.length D) (h1 ++ [.lst []]) (upd H1 D (.lst [])) μ2 h2 H' ∧ Post G (PV G Q) (fun cls d H' => Wx cls d σ H') μ2 h2 H' (lcGo a.2 t tt te (wipeE ρ vs) h1.length (a.1.drop (i + 1)) h2), fun H' z => ⟨a.1.length - (i + 1), by omega, rfl, by omega, z⟩, fun x H' y => ?_⟩
          obtain ⟨g3, r3⟩ := yl x H' y
          have s3 : StOk G μ2 (wipeE ρ vs) h2 (L2.wipe σ vs) H' := (sW.on g12).on g3
          refine NT.ok e1 r3 s3 hv fun τ1 s1 ew => ⟨by rw [ew, wipe_wipe], ?_⟩
          have p3 := (Post.bnd (p2.on g3)).noEx (E' := fun cls d H' => W0 cls d τ1 H')
          refine ⟨μ2, ρ1, h2, s1, p3.mono fun μ4 h4 H4 b g4 q4 => ?_⟩
          cases b with
          | false =>
            rw [if_neg Bool.false_ne_true] at q4 ⊢
            exact ⟨μ4, h4, (g2.trans g3).trans g4, q4⟩
          | true =>
            rw [if_pos rfl] at q4 ⊢
            refine ⟨μ4, ρ1, h4, s1.on g4, ((Post.bnd q4).noEx).mono fun μ5 h5 H5 y g5 q5 v rv => ?_⟩
            have g25 := ((g2.trans g3).trans g4).trans g5
            have em5 : μ5 h1.length = D := by rw [g25.mu _ hlD, nu_new]
            split at q5
            · rename_i acc ec
              split at q5
              · rename_i hl
                obtain ⟨xs, sx, rx⟩ := g25.rel.cell _ _ ec
                rw [em5] at sx
                refine ⟨xs, sx, by rw [RUs.length rx]; exact Nat.lt_of_lt_of_le hl (lim_le (Nat.le_refl _)), ?_⟩
                have ts : TS0 G.K H5 (upd H5 D (.lst (xs ++ [v]))) := TS0.write sx rfl
                have gw := Gr.write (o := .lst (xs ++ [v])) (d := .lst (acc ++ [y])) g25.rel ec rfl rfl ⟨_, upd_same, (rx.append (RUs.cons rv RUs.nil)).same (by rw [em5]; exact ts)⟩
                rw [em5] at gw
                exact ⟨μ5, _, g25.trans gw, q5.on gw⟩
              · exact False.elim q5
            · exact False.elim q5
      · rw [if_neg hc] at p2
        exact False.elim p2
    · have e : i = a.1.length := by omega
      subst e
      rw [List.drop_length] at p2
      unfold lcGo at p2
      by_cases hc : a.2 h2
      · rw [if_pos hc] at p2
        refine .inl ⟨(gv _ μ2 h2 H2 g12 hc).1 (Nat.le_refl _), ?_⟩
        refine Post.ok g2.rel p2 _ ?_
        simp only [RU]
        exact ⟨Nat.lt_of_lt_of_le hlD g2.len, by rw [em]⟩
      · rw [if_neg hc] at p2
        exact False.elim p2⟩
/-- y = [..] -/
theorem w_setLc {it : MI} {t : NT} {tt : MT} {te : ME} {vs : List Nat} {i : Nat} (hv : ∀ i ∈ t.vs, i ∈ vs) : ∀ D σ H, tS G Wx (mSet i (mLc it t tt te vs)) D σ H → tAsg (tLc (tI G Wx it) (t.tg G.K) (tT G W0 tt) (tE G W0 te) vs) (gName i) D σ H := fun D σ H z =>
  w_lc hv σ H _ (w_set D σ H z)
def mYes : MT := fun _ h => some (.ok true h)
theorem w_yes : ∀ σ H Q, tT G Wx mYes σ H Q → tYes σ H Q := fun σ H Q ⟨μ, ρ, h, s, p⟩ => Post.ok s.rel p
theorem _root_.L2.PTs.weak {X : Cx} {e : List Expr} {t t' : TT} (h : PTs X e t) (w : ∀ σ H Q, t' σ H Q → t σ H Q) : PTs X e t' := by
  obtain ⟨h⟩ := h
  exact ⟨fun pins s σ H Q I q => h pins s σ H Q I (w σ H Q q)⟩

/-! ### the signs of a text; enumerate; zip -/
def iS (e : ME) : MI := fun ρ h => bnd (e ρ h) fun w h1 => match w with
  | .str x => some (.ok (sItems x, fun _ => True) h1)
  | _ => none
theorem gives_str {x : Str} : Gives G (Its x) (sItems x) (fun _ => True) μ h H := fun j μ2 h2 H2 gr ck => by
  refine ⟨fun hj => by
    show x.cps.size ≤ j
    simpa [sItems] using hj, fun w hw => ?_⟩
  unfold sItems at hw
  rw [List.getElem?_map] at hw
  cases e : x.cps.toList[j]? with
  | none => rw [e] at hw; cases hw
  | some c =>
    rw [e] at hw
    cases hw
    have hj : j < x.cps.size := by
      have := (List.getElem?_eq_some_iff.mp e).1
      simpa using this
    refine ⟨hj, fun v H' y => ?_⟩
    obtain ⟨rfl, c', ec, rfl⟩ := y
    rw [← Array.getElem?_toList, e] at ec
    cases ec
    exact ⟨Gr.refl gr.rel, rfl⟩
theorem w_iS {e : ME} : ∀ σ H R, tI G Wx (iS e) σ H R → iStr (tE G Wx e) σ H R := fun σ H R ⟨μ, ρ, h, s, p⟩ =>
  ⟨μ, ρ, h, s, (Post.bnd p).mono fun μ1 h1 H1 w g q v r => by
    cases w with
    | str x =>
      simp only [RU] at r
      exact ⟨x, r, q μ1 H1 (Gr.refl g.rel) _ gives_str⟩
    | _ => exact False.elim q⟩
def eItems : Nat → List U → List U
  | _, [] => []
  | k, w :: ws => .tup [.int k, w] :: eItems (k + 1) ws
theorem eItems_get : ∀ {ws : List U} {k j : Nat}, (eItems k ws)[j]? = (ws[j]?).map fun w => .tup [.int ((k + j : Nat) : Int), w]
  | [], k, j => by simp [eItems]
  | w :: ws, k, 0 => by simp [eItems]
  | w :: ws, k, j + 1 => by
    simp only [eItems, List.getElem?_cons_succ]
    rw [eItems_get]
    congr 1
    funext w
    congr 3
    omega
theorem eItems_len : ∀ {ws : List U} {k : Nat}, (eItems k ws).length = ws.length
  | [], _ => rfl
  | w :: ws, k => by simp [eItems, eItems_len]
/-- enumerate(list) -/
def iEn (e : ME) : MI := fun ρ h => bnd (e ρ h) fun w h1 => match w with
  | .ref i => match h1[i]? with
    | some (.lst ws) => some (.ok (eItems 0 ws, fun h => h[i]? = some (.lst ws)) h1)
    | some (.frz ws) => some (.ok (eItems 0 ws, fun h => h[i]? = some (.frz ws)) h1)
    | _ => none
  | _ => none
end
end ML

set_option maxHeartbeats 4000000
/-! the rules as they are printed: the layer's rule, then its reading by a computation -/
namespace ML
open PySem L2
def visB (sc : Scope) (x : Str) : Bool := match sc.names.lookup x with
  | some .local => true
  | some .cell => true
  | some .free => true
  | _ => false
theorem visB_ok {sc : Scope} {x : Str} (h : visB sc x = true) : Vis sc x := by
  unfold visB at h
  split at h
  · rename_i e; exact .inl e
  · rename_i e; exact .inr (.inl e)
  · rename_i e; exact .inr (.inr e)
  · cases h
def locB (sc : Scope) (x : Str) : Bool := match sc.names.lookup x with
  | some .local => true
  | some .cell => true
  | _ => false
theorem locB_ok {sc : Scope} {x : Str} (h : locB sc x = true) : Loc sc x := by
  unfold locB at h
  split at h
  · rename_i e; exact .inl e
  · rename_i e; exact .inr e
  · cases h
section
variable {X : Cx} {G : Gm} {Wx : WX} {e a b c o : Expr} {es : List Expr} {st : Stmt} {rest sts : List Stmt} {x : Str} {pos p p' apos : Pos} {ma mb mc mo : ME} {mt mu : MT} {mas : MA} {ms mr : MS}
/-! names, constants -/
theorem dVar (i : Nat) (hN : X.N[i]? = some x) (hv : visB X.env.scope x = true) (hd : (x == ("__debug__" : Str)) = false) (hc : (x == ("__classdict__" : Str)) = false) : PE X (.Name x pos) (tE G Wx (mVar i)) := (pe_var hN (visB_ok hv) hd hc).weak w_var
theorem dInt {i : Int} {j : Nat} : PE X (.Constant (.int i) j pos) (tE G Wx (mC (.int i))) := pe_int.weak w_int
theorem dBl {i : Bool} {j : Nat} : PE X (.Constant (.bool i) j pos) (tE G Wx (mC (.bl i))) := pe_bl.weak w_bl
theorem dNon {j : Nat} : PE X (.Constant .none j pos) (tE G Wx (mC .non)) := pe_non.weak w_non
theorem dStr {i : Str} {j : Nat} : PE X (.Constant (.str i) j pos) (tE G Wx (mC (.str i))) := pe_str.weak w_str
/-- a module's constant -/
structure GlS (mg : Str → Option Value) (x : Str) (s : Str) : Prop where
  at_ : ∃ t, mg x = some (.str s t)
structure GlI (mg : Str → Option Value) (x : Str) (s : Int) : Prop where
  at_ : ∃ t, mg x = some (.int s t)
theorem dGlS {s : Str} (g : GlS X.mg x s) (hg : X.env.kindOf x = some .globalImplicit) (hd : (x == ("__debug__" : Str)) = false) : PE X (.Name x pos) (tE G Wx (mC (.str s))) := by
  obtain ⟨t, e⟩ := g.at_
  exact (pe_glob (v := .str s) hg e ⟨t, rfl⟩ hd).weak w_str
theorem dGlI {s : Int} (g : GlI X.mg x s) (hg : X.env.kindOf x = some .globalImplicit) (hd : (x == ("__debug__" : Str)) = false) : PE X (.Name x pos) (tE G Wx (mC (.int s))) := by
  obtain ⟨t, e⟩ := g.at_
  exact (pe_glob (v := .int s) hg e ⟨t, rfl⟩ hd).weak w_int
/-! operators -/
def oAdd : O2 := fun x y h => match (match oAddI x y h with | some z => some z | none => oAddS x y h) with
  | some z => some z
  | none => match oAddL x y h with | some z => some z | none => oAddT2 x y h
theorem dAdd (hG : X.K = G.K) (ha : PE X a (tE G Wx ma)) (hb : PE X b (tE G Wx mb)) : PE X (.BinOp a .Add b pos) (tE G Wx (mOp oAdd ma mb)) := by
  have r := (op_add (X := X)).or op_add_str
  have r2 := (op_cat (X := X)).or op_catA
  rw [hG] at r2
  exact (pe_op (r.or r2) ha hb).weak (w_op ((oAddI_ok.or oAddS_ok).or (oAddL_ok.or oAddT2_ok)))
theorem dSub (ha : PE X a (tE G Wx ma)) (hb : PE X b (tE G Wx mb)) : PE X (.BinOp a .Sub b pos) (tE G Wx (mOp oSub ma mb)) := (pe_op op_sub ha hb).weak (w_op oSub_ok)
def oMulA : O2 := fun x y h => match oMul x y h with | some z => some z | none => oRep x y h
theorem dMul (ha : PE X a (tE G Wx ma)) (hb : PE X b (tE G Wx mb)) : PE X (.BinOp a .Mult b pos) (tE G Wx (mOp oMulA ma mb)) := (pe_op ((op_mul (X := X)).or op_rep) ha hb).weak (w_op (oMul_ok.or oRep_ok))
theorem dDiv (ha : PE X a (tE G Wx ma)) (hb : PE X b (tE G Wx mb)) : PE X (.BinOp a .FloorDiv b pos) (tE G Wx (mOp oDiv ma mb)) := (pe_op op_fdivN ha hb).weak (w_op oDiv_ok)
theorem dMod (ha : PE X a (tE G Wx ma)) (hb : PE X b (tE G Wx mb)) : PE X (.BinOp a .Mod b pos) (tE G Wx (mOp oMod ma mb)) := (pe_op op_modN ha hb).weak (w_op oMod_ok)
theorem dPow (ha : PE X a (tE G Wx ma)) (hb : PE X b (tE G Wx mb)) : PE X (.BinOp a .Pow b pos) (tE G Wx (mOp oPow ma mb)) := (pe_op op_pow ha hb).weak (w_op oPow_ok)
theorem dNeg (ha : PE X a (tE G Wx ma)) : PE X (.UnaryOp .USub a pos) (tE G Wx (mNeg ma)) := (pe_un un_neg ha).weak w_neg
/-! comparisons: as values, as tests -/
theorem dLt (ha : PE X a (tE G Wx ma)) (hb : PE X b (tE G Wx mb)) : PE X (.Compare a [.Lt] [b] pos) (tE G Wx (mOp oLt ma mb)) := (pe_cmpR op_lt ha hb (nomark _)).weak (w_op oLt_ok)
theorem dLe (ha : PE X a (tE G Wx ma)) (hb : PE X b (tE G Wx mb)) : PE X (.Compare a [.LtE] [b] pos) (tE G Wx (mOp oLe ma mb)) := (pe_cmpR op_le ha hb (nomark _)).weak (w_op oLe_ok)
theorem dGt (ha : PE X a (tE G Wx ma)) (hb : PE X b (tE G Wx mb)) : PE X (.Compare a [.Gt] [b] pos) (tE G Wx (mOp oGt ma mb)) := (pe_cmpR op_gt ha hb (nomark _)).weak (w_op oGt_ok)
theorem dGe (ha : PE X a (tE G Wx ma)) (hb : PE X b (tE G Wx mb)) : PE X (.Compare a [.GtE] [b] pos) (tE G Wx (mOp oGe ma mb)) := (pe_cmpR op_ge ha hb (nomark _)).weak (w_op oGe_ok)
def oEq (n : Nat) : O2 := fun x y h => match oEqS false x y h with | some z => some z | none => oEqD false n x y h
def oNe (n : Nat) : O2 := fun x y h => match oEqS true x y h with | some z => some z | none => oEqD true n x y h
theorem dEq (n : Nat) (hG : X.K = G.K) (hu : X.A.units + 64 < cLine) (ha : PE X a (tE G Wx ma)) (hb : PE X b (tE G Wx mb)) : PE X (.Compare a [.Eq] [b] pos) (tE G Wx (mOp (oEq n) ma mb)) := by
  have r := (op_eq (X := X)).or (op_eqD hu)
  rw [hG] at r
  exact (pe_cmpR r ha hb (nomark _)).weak (w_op (oEqS_ok.or oEqD_ok))
theorem dNe (n : Nat) (hG : X.K = G.K) (hu : X.A.units + 64 < cLine) (ha : PE X a (tE G Wx ma)) (hb : PE X b (tE G Wx mb)) : PE X (.Compare a [.NotEq] [b] pos) (tE G Wx (mOp (oNe n) ma mb)) := by
  have r := (op_ne (X := X)).or (op_neD hu)
  rw [hG] at r
  exact (pe_cmpR r ha hb (nomark _)).weak (w_op (oNeS_ok.or oNeD_ok))
theorem dIsN {j : Nat} (ha : PE X a (tE G Wx ma)) : PE X (.Compare a [.Is] [.Constant .none j p] pos) (tE G Wx (mIsN false ma)) := (pe_cmp (pc_isN ha) rfl).weak w_isN
theorem dNotN {j : Nat} (ha : PE X a (tE G Wx ma)) : PE X (.Compare a [.IsNot] [.Constant .none j p] pos) (tE G Wx (mIsN true ma)) := (pe_cmp (pc_notN ha) rfl).weak w_notN
/-- x in text (one sign), x in a list or tuple -/
def oInA (neg : Bool) : O2 := fun x y h => match oInC neg x y h with | some z => some z | none => oIn neg x y h
theorem oNotInC_ok : OpC G (oInC true) (fun x y H Q => ∃ (c : Nat) (z : Str), x = .str ⟨#[c]⟩ ∧ y = .str z ∧ Q (.bl (!decide (c ∈ z.cps.toList))) H) := fun E μ h H wx wy x y Q rel rx ry p => by
  cases wx with
  | str a =>
    cases wy with
    | str z =>
      simp only [RU] at rx ry
      subst rx ry
      unfold oInC at p
      simp only at p
      split at p
      · rename_i c e
        refine ⟨c, z, by rw [str_one e], rfl, Post.ok rel p _ (by simp [RU])⟩
      · exact False.elim p
    | _ => exact False.elim p
  | _ => exact False.elim p
theorem dIn (hG : X.K = G.K) (ha : PE X a (tE G Wx ma)) (hb : PE X b (tE G Wx mb)) (hm : behindInMarks .In b = false) : PE X (.Compare a [.In] [b] pos) (tE G Wx (mOp (oInA false) ma mb)) := by
  have r := (op_in_sign (X := X)).or op_in_seq
  rw [hG] at r
  exact (pe_cmpR r ha hb hm).weak (w_op (oInC_ok.or oIn_ok))
theorem dNotIn (hG : X.K = G.K) (ha : PE X a (tE G Wx ma)) (hb : PE X b (tE G Wx mb)) (hm : behindInMarks .NotIn b = false) : PE X (.Compare a [.NotIn] [b] pos) (tE G Wx (mOp (oInA true) ma mb)) := by
  have r := (op_notIn_sign (X := X)).or op_notIn_seq
  rw [hG] at r
  exact (pe_cmpR r ha hb hm).weak (w_op (oNotInC_ok.or oIn_ok))
/-- a <= b <= c -/
theorem dLeLe (ha : PE X a (tE G Wx ma)) (hb : PE X b (tE G Wx mb)) (hc : PE X c (tE G Wx mc)) (hm : lastMarks [.LtE, .LtE] [b, c] = false) : PE X (.Compare a [.LtE, .LtE] [b, c] pos) (tE G Wx (mChain oLe oLe ma mb mc)) := (pe_chain op_le op_le ha hb hc hm).weak (w_chain oLe_ok oLe_ok)
theorem qLeLe (ha : PE X a (tE G Wx ma)) (hb : PE X b (tE G Wx mb)) (hc : PE X c (tE G Wx mc)) (hm : lastMarks [.LtE, .LtE] [b, c] = false) : PT X (.Compare a [.LtE, .LtE] [b, c] pos) (tT G Wx (mB (mChain oLe oLe ma mb mc))) := (pt_chain op_le op_le ha hb hc hm).weak (w_testchain oLe_ok oLe_ok)
/-- any comparison as a test -/
theorem qLt (ha : PE X a (tE G Wx ma)) (hb : PE X b (tE G Wx mb)) : PT X (.Compare a [.Lt] [b] pos) (tT G Wx (mB (mOp oLt ma mb))) := (pt_cmpR op_lt ha hb (nomark _)).weak (w_testop oLt_ok)
theorem qLe (ha : PE X a (tE G Wx ma)) (hb : PE X b (tE G Wx mb)) : PT X (.Compare a [.LtE] [b] pos) (tT G Wx (mB (mOp oLe ma mb))) := (pt_cmpR op_le ha hb (nomark _)).weak (w_testop oLe_ok)
theorem qGt (ha : PE X a (tE G Wx ma)) (hb : PE X b (tE G Wx mb)) : PT X (.Compare a [.Gt] [b] pos) (tT G Wx (mB (mOp oGt ma mb))) := (pt_cmpR op_gt ha hb (nomark _)).weak (w_testop oGt_ok)
theorem qGe (ha : PE X a (tE G Wx ma)) (hb : PE X b (tE G Wx mb)) : PT X (.Compare a [.GtE] [b] pos) (tT G Wx (mB (mOp oGe ma mb))) := (pt_cmpR op_ge ha hb (nomark _)).weak (w_testop oGe_ok)
theorem qEq (n : Nat) (hG : X.K = G.K) (hu : X.A.units + 64 < cLine) (ha : PE X a (tE G Wx ma)) (hb : PE X b (tE G Wx mb)) : PT X (.Compare a [.Eq] [b] pos) (tT G Wx (mB (mOp (oEq n) ma mb))) := by
  have r := (op_eq (X := X)).or (op_eqD hu)
  rw [hG] at r
  exact (pt_cmpR r ha hb (nomark _)).weak (w_testop (oEqS_ok.or oEqD_ok))
theorem qNe (n : Nat) (hG : X.K = G.K) (hu : X.A.units + 64 < cLine) (ha : PE X a (tE G Wx ma)) (hb : PE X b (tE G Wx mb)) : PT X (.Compare a [.NotEq] [b] pos) (tT G Wx (mB (mOp (oNe n) ma mb))) := by
  have r := (op_ne (X := X)).or (op_neD hu)
  rw [hG] at r
  exact (pt_cmpR r ha hb (nomark _)).weak (w_testop (oNeS_ok.or oNeD_ok))
theorem qIsN {j : Nat} (ha : PE X a (tE G Wx ma)) : PT X (.Compare a [.Is] [.Constant .none j p] pos) (tT G Wx (mB (mIsN false ma))) := (pt_cmp (pc_isN ha) rfl).weak w_testN
theorem qNotN {j : Nat} (ha : PE X a (tE G Wx ma)) : PT X (.Compare a [.IsNot] [.Constant .none j p] pos) (tT G Wx (mB (mIsN true ma))) := (pt_cmp (pc_notN ha) rfl).weak w_testNN
theorem qIn (hG : X.K = G.K) (ha : PE X a (tE G Wx ma)) (hb : PE X b (tE G Wx mb)) (hm : behindInMarks .In b = false) : PT X (.Compare a [.In] [b] pos) (tT G Wx (mB (mOp (oInA false) ma mb))) := by
  have r := (op_in_sign (X := X)).or op_in_seq
  rw [hG] at r
  exact (pt_cmpR r ha hb hm).weak (w_testop (oInC_ok.or oIn_ok))
theorem qNotIn (hG : X.K = G.K) (ha : PE X a (tE G Wx ma)) (hb : PE X b (tE G Wx mb)) (hm : behindInMarks .NotIn b = false) : PT X (.Compare a [.NotIn] [b] pos) (tT G Wx (mB (mOp (oInA true) ma mb))) := by
  have r := (op_notIn_sign (X := X)).or op_notIn_seq
  rw [hG] at r
  exact (pt_cmpR r ha hb hm).weak (w_testop (oNotInC_ok.or oIn_ok))
/-- a value that is a truth value, as a test -/
theorem qVal (h : PE X e (tE G Wx ma)) (he : ∀ whole, isTrue e X.env whole = (do let v ← whole; standAt e.pos; holding [v] (truthy v))) : PT X e (tT G Wx (mB ma)) := (pt_val h he).weak w_B
theorem qNot (h : PT X a (tT G Wx mt)) : PT X (.UnaryOp .Not a pos) (tT G Wx (mTNot mt)) := (pt_not h).weak w_tnot
theorem qAnd1 (h : PT X a (tT G Wx mt)) : PW X (.BoolOp .And [a] pos) (tT G Wx mt) := pw_and1 h
theorem qOr1 (h : PT X a (tT G Wx mt)) : PW X (.BoolOp .Or [a] pos) (tT G Wx mt) := pw_or1 h
theorem qAnd (h : PT X a (tT G Wx mt)) (k : PW X (.BoolOp .And (b :: es) pos) (tT G Wx mu)) : PW X (.BoolOp .And (a :: b :: es) pos) (tT G Wx (mTAnd mt mu)) := (pw_and h k).weak w_tand
theorem qOr (h : PT X a (tT G Wx mt)) (k : PW X (.BoolOp .Or (b :: es) pos) (tT G Wx mu)) : PW X (.BoolOp .Or (a :: b :: es) pos) (tT G Wx (mTOr mt mu)) := (pw_or h k).weak w_tor
theorem dAnd1 {op : BoolOp} (h : PE X a (tE G Wx ma)) : PE X (.BoolOp op [a] pos) (tE G Wx ma) := pe_one h
theorem dAnd (h : PE X a (tE G Wx ma)) (k : PE X (.BoolOp .And (b :: es) pos) (tE G Wx mb)) : PE X (.BoolOp .And (a :: b :: es) pos) (tE G Wx (mAnd ma mb)) := (pe_and h k).weak w_and
theorem dOr (h : PE X a (tE G Wx ma)) (k : PE X (.BoolOp .Or (b :: es) pos) (tE G Wx mb)) : PE X (.BoolOp .Or (a :: b :: es) pos) (tE G Wx (mOr ma mb)) := (pe_or h k).weak w_or
theorem dNot (h : PE X a (tE G Wx ma)) : PE X (.UnaryOp .Not a pos) (tE G Wx (mNot ma)) := (pe_not h).weak w_not
theorem dIfE (h : PT X c (tT G Wx mt)) (ha : PE X a (tE G Wx ma)) (hb : PE X b (tE G Wx mb)) : PE X (.IfExp c a b pos) (tE G Wx (mIfE mt ma mb)) := (pe_ifExp h ha hb).weak w_ifE
/-! displays, items, slices -/
theorem dNil : PA X [] (tA G Wx mNil) := pa_nil.weak w_nil
theorem dCons (h : PE X e (tE G Wx ma)) (k : PA X es (tA G Wx mas)) (hs : starEach (e :: es) X.env = (false, eval e X.env) :: starEach es X.env) : PA X (e :: es) (tA G Wx (mCons ma mas)) := (pa_cons h k hs).weak w_cons
theorem dTup {x1} (h : PA X es (tA G Wx mas)) : PE X (.Tuple es x1 pos) (tE G Wx (mTup mas)) := (pe_tup h).weak w_tup
theorem dLst (h : PA X es (tA G Wx mas)) : PE X (.List es pos) (tE G Wx (mLst mas)) := (pe_lst h).weak w_lst
theorem dIx (hG : X.K = G.K) (ha : PE X a (tE G Wx ma)) (hb : PE X b (tE G Wx mb)) (hs : PlainIx b) : PE X (.Subscript a b pos) (tE G Wx (mOp oIx ma mb)) := by
  have r := ix_seq (X := X)
  rw [hG] at r
  exact (pe_ix r ha hb hs).weak (w_op oIx_ok)
def oSlS : OS := fun x lo hi h => match x with
  | .str z => if z.length ≤ LIM then some (.ok (.str (cutS z lo hi)) h) else none
  | _ => none
theorem oSlS_ok : SlC G oSlS rSlS := fun E μ h H wx x lo hi Q rel rx p => by
  unfold oSlS at p
  split at p
  · rename_i z
    simp only [RU] at rx
    subst rx
    split at p
    · rename_i hc
      exact ⟨z, rfl, lim_le hc, Post.ok rel p _ rfl⟩
    · exact False.elim p
  · exact False.elim p
theorem SlC.or {f g : OS} {r r' : V → Option Int → Option Int → Hp → VK → Prop} (c : SlC G f r) (d : SlC G g r') : SlC G (fun x lo hi h => match f x lo hi h with | some z => some z | none => g x lo hi h) (fun x lo hi H Q => r x lo hi H Q ∨ r' x lo hi H Q) := fun E μ h H wx x lo hi Q rel rx p => by
  cases e : f wx lo hi h with
  | none => simp only [e] at p; exact .inr (d E μ h H wx x lo hi Q rel rx p)
  | some z => simp only [e] at p; exact .inl (c E μ h H wx x lo hi Q rel rx (by rw [e]; exact p))
def oSl : OS := fun x lo hi h => match oSlS x lo hi h with
  | some z => some z
  | none => match oSlL x lo hi h with | some z => some z | none => oSlT x lo hi h
variable {lo hi : Option Expr} {ml mh : MO}
theorem dSl {p2 : Pos} (hG : X.K = G.K) (h : PE X e (tE G Wx ma)) (hl : PO X lo (tO G Wx ml)) (hh : PO X hi (tO G Wx mh)) : PE X (.Subscript e (.Slice lo hi none p2) pos) (tE G Wx (mSl oSl ma ml mh)) := by
  have r2 := (sl_list (X := X)).or sl_tupA
  rw [hG] at r2
  exact (pe_slice ((sl_str (X := X)).or r2) h hl hh).weak (w_sl (oSlS_ok.or (oSlL_ok.or oSlT_ok)))
theorem dNoP : PO X none (tO G Wx mNoPart) := po_none.weak w_noPart
theorem dPart (h : PE X e (tE G Wx ma)) : PO X (some e) (tO G Wx (mPart ma)) := (po_some h).weak w_part
/-! calls of built-ins -/
structure StarOk (X : Cx) (pos : Pos) (e : Expr) (es : List Expr) : Prop where
  s : starEach (e :: es) X.env = (false, eval e X.env) :: starEach es X.env
  p : (backTo pos (starEach es X.env)).any (·.1) = false
theorem dB {id : String} {f : MF} {r : List V → Hp → VK → Prop} (hc : CallR X (.builtin id) r) (cc : CallC G f r) (hm : X.mg x = none) (hg : X.env.kindOf x = some .globalImplicit) (hv : bootBuiltins x = some (.builtin id)) (ha : PA X (e :: es) (tA G Wx mas)) (hn : x ≠ "__name__") (hd : (x == ("__debug__" : Str)) = false) (so : StarOk X pos e es) :
    PE X (.Call (.Name x p) (e :: es) [] pos) (tE G Wx (mCB f mas)) := (pe_callB hc hg hm hv ha hn hd so.s so.p).weak (w_cb cc)
theorem dTy {T : String} {f : MF} {r : List V → Hp → VK → Prop} (hc : CallR X (.type T) r) (cc : CallC G f r) (hm : X.mg x = none) (hg : X.env.kindOf x = some .globalImplicit) (hv : bootBuiltins x = some (.type T)) (ha : PA X (e :: es) (tA G Wx mas)) (hn : x ≠ "__name__") (hd : (x == ("__debug__" : Str)) = false) (so : StarOk X pos e es) :
    PE X (.Call (.Name x p) (e :: es) [] pos) (tE G Wx (mCB f mas)) := (pe_callTy hc hg hm hv ha hn hd so.s so.p).weak (w_cb cc)
theorem cLen (hG : X.K = G.K) : CallR X (.builtin "len") (fun xs H Q => ∃ x n, xs = [x] ∧ LenV G.K x H n ∧ Q (.int n) H) := by
  have r := call_len (X := X)
  rw [hG] at r
  exact r
theorem cAll (hG : X.K = G.K) (hc : X.calm = true) : CallR X (.builtin "all") (fun vs H Q => ∃ (a : Addr) (bs : List Bool), vs = [V.ref a] ∧ SqL G.K H a (bs.map V.bl) ∧ Q (.bl (bs.all id)) H) := by
  have r := cr_all hc
  rw [hG] at r
  exact r
theorem cAny (hG : X.K = G.K) (hc : X.calm = true) : CallR X (.builtin "any") (fun vs H Q => ∃ (a : Addr) (bs : List Bool), vs = [V.ref a] ∧ SqL G.K H a (bs.map V.bl) ∧ Q (.bl (bs.any id)) H) := by
  have r := cr_any hc
  rw [hG] at r
  exact r
theorem cList (hG : X.K = G.K) : CallR X (.type "list") (fun xs H Q => ∃ p ys, xs = [.ref p] ∧ (SqL G.K H p ys ∨ SqT G.K H p ys) ∧ ∀ l, H l = none → Q (.ref l) (upd H l (.lst ys))) := by
  have r := call_list_of (X := X)
  rw [hG] at r
  exact r
theorem cTuple (hG : X.K = G.K) : CallR X (.type "tuple") (fun xs H Q => ∃ p ys, xs = [.ref p] ∧ ((SqL G.K H p ys ∧ ∀ l, H l = none → Q (.ref l) (upd H l (.tup ys))) ∨ (SqT G.K H p ys ∧ Q (.ref p) H))) := by
  have r := call_tuple_of (X := X)
  rw [hG] at r
  exact r
def fIntA : MF := fun ws h => match fInt ws h with | some z => some z | none => fIntS ws h
theorem CallC.or {f g : MF} {r r' : List V → Hp → VK → Prop} (c : CallC G f r) (d : CallC G g r') : CallC G (fun ws h => match f ws h with | some z => some z | none => g ws h) (fun xs H Q => r xs H Q ∨ r' xs H Q) := fun E μ h H ws vs Q rel rs p => by
  cases e : f ws h with
  | none => simp only [e] at p; exact .inr (d E μ h H ws vs Q rel rs p)
  | some z => simp only [e] at p; exact .inl (c E μ h H ws vs Q rel rs (by rw [e]; exact p))
/-- isinstance(e, C) -/
structure IsA (X : Cx) (G : Gm) (c : Expr) (tab : TyK → Option Bool) : Prop where
  at_ : ∃ cv u, IsiC G tab cv u ∧ PE X c (tC cv)
theorem dIsi {tab : TyK → Option Bool} (hG : X.K = G.K) (t : IsA X G c tab) (ha : PE X a (tE G Wx ma)) (hm : X.mg "isinstance" = none) (hg : X.env.kindOf "isinstance" = some .globalImplicit) (so : StarOk X pos a [c]) (so2 : starEach [c] X.env = (false, eval c X.env) :: starEach [] X.env) :
    PE X (.Call (.Name "isinstance" p) [a, c] [] pos) (tE G Wx (mIsi tab ma)) := by
  obtain ⟨cv, u, i, hc⟩ := t.at_
  have r := (call_isi (X := X)).or call_isV
  rw [hG] at r
  exact (pe_callB r hg hm PyProof.Rows.boot_isinstance (pa_cons ha (pa_cons hc pa_nil so2) so.s) (by decide) (by decide) so.s so.p).weak (w_isi i)
/-! methods of built-in types -/
theorem dAppend (ha : PE X o (tE G Wx mo)) (he : PE X e (tE G Wx ma)) (hG : X.K = G.K) (hs : starEach [e] X.env = (false, eval e X.env) :: starEach [] X.env)
    (hb : PE X (.Call (.Attribute o "append" apos) [e] [] pos) (tBM X.K "list" rAppend (tE G Wx mo) (tA G Wx (mCons ma mNil)))) : PE X (.Call (.Attribute o "append" apos) [e] [] pos) (tE G Wx (mBM kList fAppend mo (mCons ma mNil))) := by
  rw [hG] at hb
  exact hb.weak (w_bm kList_ok fAppend_ok)
def fFind : U → MF := fun x ws h => match x, ws with
  | .str a, [.str b] => some (.ok (.int (Txt.find a b)) h)
  | _, _ => none
theorem w_m1 {f : U → MF} {r : V → List V → Hp → VK → Prop} (c : MtC G "str" f r) : ∀ σ H Q, tE G Wx (mBM kStr f mo (mCons ma mNil)) σ H Q → tM1 r (tE G Wx mo) (tE G Wx ma) σ H Q := fun σ H Q ⟨μ, ρ, h, s, q⟩ =>
  ⟨μ, ρ, h, s, (Post.bnd q).mono fun μ1 h1 H1 wx g1 q1 x rx => by
    split at q1
    · rename_i hk
      cases wx <;> first | (cases hk; done) | skip
      rename_i z
      have rx' := rx
      simp only [RU] at rx'
      subst rx'
      refine ⟨⟨z, rfl⟩, μ1, ρ, h1, s.on g1, (Post.bnd (Post.bnd q1)).mono fun μ2 h2 H2 w g2 q2 y ry => ?_⟩
      exact c _ μ2 h2 H2 _ _ [w] [y] Q g2.rel (g2.ru rx) (RUs.cons ry RUs.nil) (Post.ok (E := fun cls d H' => Wx cls d σ H') g2.rel q2)
    · exact False.elim q1⟩
theorem fFind_ok : MtC G "str" fFind (fun x xs H Q => ∃ a b, x = .str a ∧ xs = [.str b] ∧ Q (.int (Txt.find a b)) H) := fun E μ h H wx x ws vs Q rel rx rs q => by
  unfold fFind at q
  split at q
  · rename_i a b
    simp only [RU] at rx
    subst rx
    obtain ⟨v, rfl, r⟩ := rus1 rs
    simp only [RU] at r
    subst r
    exact ⟨a, b, rfl, rfl, Post.ok rel q _ rfl⟩
  · exact False.elim q
structure BaseOk (X : Cx) (o : Expr) (m : Str) (apos pos : Pos) : Prop where
  b : attributeBase o m X.env (eval o X.env) = eval o X.env
  l : (apos.endLine == pos.line) = true
theorem dFind (ha : PE X o (tE G Wx mo)) (he : PE X e (tE G Wx ma)) (hs : starEach [e] X.env = [(false, eval e X.env)]) (bo : BaseOk X o "find" apos pos) : PE X (.Call (.Attribute o "find" apos) [e] [] pos) (tE G Wx (mBM kStr fFind mo (mCons ma mNil))) :=
  (pe_m1 F.slot_str_find F.type_str_find mt_find ha he hs bo.b bo.l).weak (w_m1 fFind_ok)
def strsOf : List U → Option (List Str)
  | [] => some []
  | .str b :: ws => match strsOf ws with
    | some bs => some (b :: bs)
    | none => none
  | _ :: _ => none
theorem strsOf_ok {K : PySem.W.Frag} {μ : Nat → Addr} {n : Nat} {H : Hp} : ∀ {ws : List U} {vs : List V} {bs : List Str}, strsOf ws = some bs → RUs K μ n H ws vs → vs = bs.map V.str
  | [], vs, bs, e, r => by simp only [RUs] at r; subst r; cases e; rfl
  | w :: ws, vs, bs, e, r => by
    cases w <;> first | (cases e; done) | skip
    rename_i b
    simp only [strsOf] at e
    simp only [RUs] at r
    obtain ⟨y, ys, rfl, r1, rs⟩ := r
    cases e1 : strsOf ws with
    | none => rw [e1] at e; cases e
    | some bs2 =>
      rw [e1] at e
      cases e
      simp only [RU] at r1
      rw [r1, strsOf_ok e1 rs]
      rfl
def fJoin : U → MF := fun x ws h => match x, (match ws with
    | [.ref i] => rd h i
    | [.tup us] => some us
    | _ => none) with
  | .str a, some us => match strsOf us with
    | some ys => if (ys.map (·.length)).sum + ys.length * a.length ≤ 1000000 then some (.ok (.str (Txt.join a ys)) h) else none
    | none => none
  | _, _ => none
theorem fJoin_ok : MtC G "str" fJoin (fun x xs H Q => ∃ a p, ∃ ys : List Str, x = .str a ∧ xs = [.ref p] ∧ (SqL G.K H p (ys.map V.str) ∨ SqT G.K H p (ys.map V.str)) ∧ (ys.map (·.length)).sum + ys.length * a.length ≤ 16777216 ∧ Q (.str (Txt.join a ys)) H) := fun E μ h H wx x ws vs Q rel rx rs q => by
  unfold fJoin at q
  split at q
  · rename_i a us eu
    split at q
    · rename_i ys ey
      split at q
      · rename_i hl
        simp only [RU] at rx
        subst rx
        split at eu
        · rename_i i
          obtain ⟨v, rfl, r⟩ := rus1 rs
          simp only [RU] at r
          obtain ⟨_, rfl⟩ := r
          obtain ⟨xs, sq, rr⟩ := rd_ok rel eu
          have := strsOf_ok ey rr
          subst this
          exact ⟨a, _, ys, rfl, rfl, .inl sq, by omega, Post.ok rel q _ rfl⟩
        · rename_i us'
          cases eu
          obtain ⟨v, rfl, r⟩ := rus1 rs
          simp only [RU] at r
          obtain ⟨b, xs, rfl, st, rr⟩ := r
          have := strsOf_ok ey rr
          subst this
          exact ⟨a, _, ys, rfl, rfl, .inr st, by omega, Post.ok rel q _ rfl⟩
        · cases eu
      · exact False.elim q
    · exact False.elim q
  · exact False.elim q
theorem dJoin (hG : X.K = G.K) (ha : PE X o (tE G Wx mo)) (he : PE X e (tE G Wx ma)) (hs : starEach [e] X.env = [(false, eval e X.env)]) (bo : BaseOk X o "join" apos pos) : PE X (.Call (.Attribute o "join" apos) [e] [] pos) (tE G Wx (mBM kStr fJoin mo (mCons ma mNil))) := by
  have r := mt_join (X := X)
  rw [hG] at r
  exact (pe_m1 F.slot_str_join F.type_str_join r ha he hs bo.b bo.l).weak (w_m1 fJoin_ok)
/-! attributes -/
theorem dAttr {f : Str} {ins exc : Nat → Bool} (hG : X.K = G.K) (t : AtX G f ins exc) (ha : PE X o (tE G Wx mo)) (hb : attributeBase o f X.env (eval o X.env) = eval o X.env) : PE X (.Attribute o f pos) (tE G Wx (mAttrX f ins exc mo)) := by
  have r := pe_fldX (pos := pos) ha hb
  rw [hG] at r
  exact r.weak (w_attrX t)
/-! calls of defs -/
structure Callee (P : Program) (w : World) (G : Gm) (mg : Str → Option Value) (base : Heap) (x : Str) (k : Nat) (ps : List Str) (m : MF) : Prop where
  ex : ∃ a fd, mg x = some (.ref a) ∧ PySem.W.keepIn G.K (.ref a) = true ∧ Binds G.K fd ps [] ∧ FnM P w G mg base k a fd ps m
theorem dCall {k j n : Nat} {ps : List Str} {m : MF} (hG : X.K = G.K) (cl : Callee X.prog X.w G X.mg X.base x k ps m) (hr : Room j X.A) (hk : k ≤ j) (tk : Takes X Wx) (hn : ps.length = n) (ha : PA X (e :: es) (tA G Wx mas)) (al : AL mas n) (hg : X.env.kindOf x = some .globalImplicit) (hd : (x == ("__debug__" : Str)) = false) (so : StarOk X pos e es) :
    PE X (.Call (.Name x p) (e :: es) [] pos) (tE G Wx (mCB m mas)) := by
  obtain ⟨a, fd, hm, kp, hb, F⟩ := cl.ex
  unfold FnM at F
  subst hn
  obtain ⟨K, ca⟩ := G
  subst hG
  exact (pe_callS F (hr.mono hk) hg hm kp hb (passAt tk) ha hd so.s so.p).weak (w_call al)
theorem dCall0 {k j : Nat} {m : MF} (hG : X.K = G.K) (cl : Callee X.prog X.w G X.mg X.base x k [] m) (hr : Room j X.A) (hk : k ≤ j) (tk : Takes X Wx) (hg : X.env.kindOf x = some .globalImplicit) (hd : (x == ("__debug__" : Str)) = false) :
    PE X (.Call (.Name x p) [] [] pos) (tE G Wx (mCB m mNil)) := by
  obtain ⟨a, fd, hm, kp, hb, F⟩ := cl.ex
  unfold FnM at F
  obtain ⟨K, ca⟩ := G
  subst hG
  exact (pe_callS0 F (hr.mono hk) hg hm kp hb (passAt tk) hd).weak w_call0
/-! statements -/
theorem dSkip : PSs X [] (tS G Wx mSkip) := pss_nil.weak w_skip
theorem dSeq (h : PS X st (tS G Wx ms)) (k : PSs X rest (tS G Wx mr)) : PSs X (st :: rest) (tS G Wx (mSeq ms mr)) := (pss_cons h k).weak w_seq
theorem dOne (h : PS X st (tS G Wx ms)) : PSs X [st] (tS G Wx ms) := pss_one h
theorem dPass : PS X (.Pass pos) (tS G Wx mSkip) := ps_pass.weak w_skip
theorem dRet (h : PE X e (tE G Wx ma)) : PS X (.Return (some e) pos) (tS G Wx (mRet ma)) := (ps_ret h).weak w_ret
theorem dRetN : PS X (.Return none pos) (tS G Wx mRetN) := ps_retN.weak w_retN
theorem dExpr (h : PE X e (tE G Wx ma)) (hs : swapsWith e none pos.line X.env = pure false) : PS X (.Expr e pos) (tS G Wx (mDrop ma)) := (ps_expr h hs).weak w_drop
theorem dSet {y : Str} {i : Nat} (h : PE X e (tE G Wx ma)) (hN : X.N.Nodup) (hi : X.N[i]? = some y) (hl : locB X.env.scope y = true) (hs : swapsWith e (some (.Name y p)) pos.line X.env = pure false) (hf : X.fn y = true ∨ X.env.scope.names.lookup y = some .local) : PS X (.Assign [.Name y p] e pos) (tS G Wx (mSet i ma)) :=
  (ps_set hN hi (locB_ok hl) h hs hf).weak w_set
theorem dIf {sa sb : List Stmt} {m1 m2 : MS} (h : PT X c (tT G Wx mt)) (ha : PSs X sa (tS G Wx m1)) (hb : PSs X sb (tS G Wx m2)) : PS X (.If c sa sb pos) (tS G Wx (mIf mt m1 m2)) := (ps_if h ha hb).weak w_if
theorem dBrk : PS X (.Break pos) (tS G Wx mBrk) := ps_break.weak w_brk
theorem dCont : PS X (.Continue pos) (tS G Wx mCont) := ps_continue.weak w_cont
theorem dFor {tg iter : Expr} {body : List Stmt} {mi : MI} {mg : MG} {mb : MS} (hp : PassesOwn (model X.prog X.w) X.A X.env X.xe) (hc : X.calm = true) (hi : PI X tg iter (tI G Wx mi)) (hg : PG X tg (tG G mg)) (hb : PSs X body (tS G Wx mb)) (hs : ∀ x, foldedSetIterable iter X.env x = pure x) : PS X (.For tg iter body [] pos) (tS G Wx (mFor mi mg mb)) :=
  (ps_for hp hc hi hg hb hs).weak w_for
theorem dWhile {body : List Stmt} {mb : MS} (hp : PassesOwn (model X.prog X.w) X.A X.env X.xe) (hc : PT X c (tT G Wx mt)) (hb : PSs X body (tS G Wx mb)) : PS X (.While c body [] pos) (tS G Wx (mWhile mt mb)) := (ps_while hp hc hb).weak w_while
theorem dSetIx {i : Expr} {mi : ME} {p1 : Pos} (he : PE X e (tE G Wx ma)) (ho : PE X o (tE G Wx mo)) (hi : PE X i (tE G Wx mi)) (hs : swapsWithSole [.Subscript o i p1] e pos.line X.env = pure false) (hw : swappedStores [.Subscript o i p1] e X.env = pure none) (ht : ∀ (v : Value), assign (o.Subscript i p1) X.env v = do
      let ov ← holding [v] (eval o X.env)
      let iv ← holding [v, ov] (eval i X.env)
      standAt p1
      holding [v, ov, iv] (setItem ov iv v)
      release [v, ov, iv] []) (h1 : List.map (fun x => x.snd) (assignEach [.Subscript o i p1] X.env) = [assign (.Subscript o i p1) X.env]) : PS X (.Assign [.Subscript o i p1] e pos) (tS G Wx (mSetIx ma mo mi)) :=
  (ps_asg he (pg_sub ho hi set_list ht) hs hw h1).weak w_setIx
theorem dAsg {tg : Expr} {g : MG} (he : PE X e (tE G Wx ma)) (hg : PG X tg (tG G g)) (hs : swapsWithSole [tg] e pos.line X.env = pure false) (hw : swappedStores [tg] e X.env = pure none) (h1 : List.map (fun x => x.snd) (assignEach [tg] X.env) = [assign tg X.env]) : PS X (.Assign [tg] e pos) (tS G Wx (mAsg g ma)) := (ps_asg he hg hs hw h1).weak w_asg
theorem gName {y : Str} {i : Nat} (hN : X.N.Nodup) (hi : X.N[i]? = some y) (hl : locB X.env.scope y = true) (hf : X.fn y = true ∨ X.env.scope.names.lookup y = some .local) : PG X (.Name y pos) (tG G (gN i)) := (pg_name hN hi (locB_ok hl) hf).weak w_gN
theorem gNil' : PGs X [] (tGs G gE) := pgs_nil.weak w_gE
/-! iterators -/
theorem iList' {tg : Expr} (hG : X.K = G.K) (h : PE X e (tE G Wx ma)) : PI X tg e (tI G Wx (iL ma)) := by
  have r := pi_list (tg := tg) h
  rw [hG] at r
  exact r.weak w_iL
theorem iTup' {tg : Expr} (hG : X.K = G.K) (h : PE X e (tE G Wx ma)) : PI X tg e (tI G Wx (iT ma)) := by
  have r := pi_tup (tg := tg) h
  rw [hG] at r
  exact r.weak w_iT
theorem iStr' {tg : Expr} (h : PE X e (tE G Wx ma)) : PI X tg e (tI G Wx (iS ma)) := (pi_str h).weak w_iS
theorem iRange1 {tg : Expr} (h : PE X e (tE G Wx ma)) (hm : X.mg "range" = none) (hg : X.env.kindOf "range" = some .globalImplicit) (hs1 : starEach [e] X.env = (false, eval e X.env) :: starEach [] X.env) (hs : starEach [e] X.env = [(false, eval e X.env)]) : PI X tg (.Call (.Name "range" p) [e] [] pos) (tI G Wx (iR1 ma)) :=
  (pi_range1 hg hm (pa_cons h pa_nil hs1) hs).weak w_iR1
theorem iRange2 {tg : Expr} (ha : PE X a (tE G Wx ma)) (hb : PE X b (tE G Wx mb)) (hm : X.mg "range" = none) (hg : X.env.kindOf "range" = some .globalImplicit) (hs1 : starEach [a, b] X.env = (false, eval a X.env) :: starEach [b] X.env) (hs2 : starEach [b] X.env = (false, eval b X.env) :: starEach [] X.env)
    (hs : starEach [a, b] X.env = [(false, eval a X.env), (false, eval b X.env)]) (hs3 : starEach [b] X.env = [(false, eval b X.env)]) : PI X tg (.Call (.Name "range" p) [a, b] [] pos) (tI G Wx (iR2 ma mb)) :=
  (pi_range2 hg hm (pa_cons ha (pa_cons hb pa_nil hs2) hs1) hs hs3).weak w_iR2
/-! raise, try -/
structure OwnErr (P : Program) (w : World) (G : Gm) (mg : Str → Option Value) (base : Heap) (x : Str) (k c n : Nat) (mk : MX) : Prop where
  ox : OexC G.K (G.ca c)
  gl : mg x = some (.ref (G.ca c))
  ex : ∃ fI fd ps, PySem.W.findIn G.K (.ref (G.ca c)) "__init__" = some (some (.ref fI)) ∧ PySem.W.typeIn G.K (.ref fI) = some (.type "function") ∧ Binds G.K fd ps [] ∧ FnOk P w G.K mg base CX0 k fI fd ps (spX G c n mk)
theorem passE {X : Cx} : Passes CX0 X (fun _ _ _ => False) := fun _ _ _ _ _ _ _ h => h.elim
theorem dRaise {k j c n : Nat} {mk : MX} (hG : X.K = G.K) (oe : OwnErr X.prog X.w G X.mg X.base x k c n mk) (hr : Room j X.A) (hk : k + 1 ≤ j) (tk : Takes X Wx) (hc : X.calm = true) (ha : PA X (e :: es) (tA G Wx mas)) (al : AL mas n) (hn : n ≤ 1000) (hg : X.env.kindOf x = some .globalImplicit) (hd : (x == ("__debug__" : Str)) = false) (so : StarOk X pos e es) :
    PS X (.Raise (some (.Call (.Name x p) (e :: es) [] pos)) none p') (tS G Wx (mRaise c mk mas)) := by
  obtain ⟨fI, fd, ps, h1, h2, hb, F⟩ := oe.ex
  have T := oe.ox
  have gl := oe.gl
  obtain ⟨K, ca⟩ := G
  subst hG
  exact (ps_raise hc tk (pmk_oex T h1 h2 F (hr.mono hk) hb .nil passE hg gl ha hd so.s so.p)).weak (w_raise al hn)
theorem dTry {n : Str} {cv : Value} {i : Nat} {body suite : List Stmt} {b₀ : Stmt} {np pos' : Pos} {tab : Nat → Option Bool} {mb ms : MS} (hG : X.K = G.K) (t : TakC G tab cv) (hs : X.stack = X.env :: X.outer) (hf : X.env.frame = some X.env.locals) (hex : X.ex = []) (hN : X.N.Nodup) (hi : X.N[i]? = some n) (hln : X.env.kindOf n = some .local) (hc : Names X x cv) (tk : Takes X Wx)
    (hb : ∀ (W : WX) (pn : List (Addr × Obj)) (xe : Value → Shared → Prop), Takes (X.tr pn xe) W → PassesOwn (model X.prog X.w) X.A X.env xe → PSs (X.tr pn xe) body (tS G W mb))
    (hsu : ∀ (a : Addr) (pn : List (Addr × Obj)), PSs (X.suite a pn) (b₀ :: suite) (tS G W0 ms)) :
    PS X (.Try body [.ExceptHandler (some (.Name x np)) (some n) (b₀ :: suite) pos'] [] [] pos) (tS G Wx (mTry tab i mb ms)) := by
  have r := ps_try_asT (pos := pos) (pos' := pos') (np := np) (Wout := Wx) (tb := fun W => tS G W mb) hs hf hex hN hi hln hc tk hb hsu
  rw [hG] at r
  exact r.weak (w_try t)
end
end ML

set_option maxHeartbeats 4000000
/-! comprehensions, isinstance, own errors as they are printed -/
namespace ML
open PySem L2
section
variable {X : Cx} {G : Gm} {Wx : WX} {e a b c o elt tg iter : Expr} {es ifs : List Expr} {x : Str} {pos p : Pos} {ma mb mc mo me : ME} {mt : MT} {mi : MI} {scope : Scope} {own : List (Str × Nat)}
theorem dLc (t : NT) (hG : X.K = G.K) (hc : X.calm = true) (hN : X.N.Nodup) (hi : PI X tg iter (tI G Wx mi)) (bk : BlkOk X.N X.env.scope scope own)
    (hg : ∀ (s : Shared) (H : Hp) (C : Addr) (cl : List (Str × Addr)) (fp : List Addr), PG (X.blk s H scope (compEnvC scope cl C X.env) fp) tg (t.tg G.K))
    (ht : ∀ (s : Shared) (H : Hp) (C : Addr) (cl : List (Str × Addr)) (fp : List Addr), PTs (X.blk s H scope (compEnvC scope cl C X.env) fp) ifs (tT G W0 mt))
    (he : ∀ (s : Shared) (H : Hp) (C : Addr) (cl : List (Str × Addr)) (fp : List Addr), PE (X.blk s H scope (compEnvC scope cl C X.env) fp) elt (tE G W0 me))
    (hv : ∀ i ∈ t.vs, i ∈ own.map (·.2)) (hs : ∀ x, foldedSetIterable iter X.env x = pure x) :
    PE X (.ListComp elt [⟨tg, iter, ifs, 0⟩] scope pos) (tE G Wx (mLc mi t mt me (own.map (·.2)))) :=
  (pe_lc hc hN hi bk hg ht he hs).weak (w_lc hv)
theorem dLcSet (t : NT) {i : Nat} {y : Str} {py spos : Pos} (hG : X.K = G.K) (hc : X.calm = true) (hN : X.N.Nodup) (hy : X.N[i]? = some y) (hyl : X.env.scope.names.lookup y = some .local)
    (hsw : swapsWith (.ListComp elt [⟨tg, iter, ifs, 0⟩] scope pos) (some (.Name y py)) spos.line X.env = pure true) (hi : PI X tg iter (tI G Wx mi)) (bk : BlkOk X.N X.env.scope scope own)
    (hg : ∀ (s : Shared) (H : Hp) (C : Addr) (cl : List (Str × Addr)) (fp : List Addr), PG (X.blk s H scope (compEnvC scope cl C X.env) fp) tg (t.tg G.K))
    (ht : ∀ (s : Shared) (H : Hp) (C : Addr) (cl : List (Str × Addr)) (fp : List Addr), PTs (X.blk s H scope (compEnvC scope cl C X.env) fp) ifs (tT G W0 mt))
    (he : ∀ (s : Shared) (H : Hp) (C : Addr) (cl : List (Str × Addr)) (fp : List Addr), PE (X.blk s H scope (compEnvC scope cl C X.env) fp) elt (tE G W0 me))
    (hv : ∀ i ∈ t.vs, i ∈ own.map (·.2)) (hs : ∀ x, foldedSetIterable iter X.env x = pure x) :
    PS X (.Assign [.Name y py] (.ListComp elt [⟨tg, iter, ifs, 0⟩] scope pos) spos) (tS G Wx (mSet i (mLc mi t mt me (own.map (·.2))))) :=
  (ps_setLc hc hN hy hyl hsw hi bk hg ht he hs).weak (w_setLc hv)
theorem dYes : PTs X [] (tT G W0 mYes) := pts_nil.weak w_yes
theorem dIf1 (h : PT X c (tT G W0 mt)) : PTs X [c] (tT G W0 mt) := pts_one h
theorem ntOne {y : Str} {i : Nat} (hN : X.N.Nodup) (hi : X.N[i]? = some y) (hl : locB X.env.scope y = true) (hf : X.fn y = true ∨ X.env.scope.names.lookup y = some .local) : PG X (.Name y pos) ((NT.one i).tg G.K) := pg_name hN hi (locB_ok hl) hf
/-- isinstance by a built-in class: only the plain kinds are answered, own instances and errors where they are told -/
def tabInt : TyK → Option Bool
  | .int => some true
  | .bl => some true
  | .non => some false
  | .str => some false
  | .lst => some false
  | .tup => some false
  | _ => none
def tabBool : TyK → Option Bool
  | .int => some false
  | .bl => some true
  | .non => some false
  | .str => some false
  | .lst => some false
  | .tup => some false
  | _ => none
def tabStr : TyK → Option Bool
  | .int => some false
  | .bl => some false
  | .non => some false
  | .str => some true
  | .lst => some false
  | .tup => some false
  | _ => none
def tabTup : TyK → Option Bool
  | .int => some false
  | .bl => some false
  | .non => some false
  | .str => some false
  | .lst => some false
  | .tup => some true
  | _ => none
theorem isiInt : IsiC G tabInt (.ty "int") (.type "int") := ⟨ClsV.ty _, fun k b h => by cases k <;> cases h <;> exact kit_ty (by decide +kernel), (fun c b h => nomatch h), (fun c b h => nomatch h)⟩
theorem isiBool : IsiC G tabBool (.ty "bool") (.type "bool") := ⟨ClsV.ty _, fun k b h => by cases k <;> cases h <;> exact kit_ty (by decide +kernel), (fun c b h => nomatch h), (fun c b h => nomatch h)⟩
theorem isiStr : IsiC G tabStr (.ty "str") (.type "str") := ⟨ClsV.ty _, fun k b h => by cases k <;> cases h <;> exact kit_ty (by decide +kernel), (fun c b h => nomatch h), (fun c b h => nomatch h)⟩
theorem isiTup : IsiC G tabTup (.ty "tuple") (.type "tuple") := ⟨ClsV.ty _, fun k b h => by cases k <;> cases h <;> exact kit_ty (by decide +kernel), (fun c b h => nomatch h), (fun c b h => nomatch h)⟩
theorem isaTy {n : String} {tab : TyK → Option Bool} (t : IsiC G tab (.ty n) (.type n)) (hg : X.env.kindOf x = some .globalImplicit) (hm : X.mg x = none) (hb : bootBuiltins x = some (.type n)) (hn : x ≠ "__name__") (hd : (x == ("__debug__" : Str)) = false) : IsA X G (.Name x pos) tab :=
  ⟨.ty n, .type n, t, pe_bltn (v := .ty n) hg hm hb (by rfl) hn hd⟩
/-- isinstance by an own class: the told answers -/
structure OwnK (G : Gm) (mg : Str → Option Value) (x : Str) (tab : TyK → Option Bool) : Prop where
  ex : ∃ C, mg x = some (.ref C) ∧ IsiC G tab (.ref C) (.ref C)
theorem isaOwn {tab : TyK → Option Bool} (o : OwnK G X.mg x tab) (hg : X.env.kindOf x = some .globalImplicit) (hd : (x == ("__debug__" : Str)) = false) : IsA X G (.Name x pos) tab := by
  obtain ⟨C, hm, i⟩ := o.ex
  exact ⟨.ref C, .ref C, i, pe_glob (v := .ref C) hg hm (by rfl) hd⟩
theorem cAbs : CallR X (.builtin "abs") (fun xs H Q => ∃ i, xs = [.int i] ∧ Q (.int (if i < 0 then -i else i)) H) := call_abs
theorem cInt : CallR X (.type "int") (fun xs H Q => ((∃ i, xs = [.int i] ∧ Q (.int i) H) ∨ ∃ k, xs = [.bl k] ∧ Q (.int (if k then 1 else 0)) H) ∨ ∃ a n, xs = [.str a] ∧ PySem.intText? a = some n ∧ a.length ≤ 640 ∧ Q (.int n) H) := (call_int1 (X := X)).or call_int_str
theorem fIntA_ok : CallC G fIntA (fun xs H Q => ((∃ i, xs = [.int i] ∧ Q (.int i) H) ∨ ∃ k, xs = [.bl k] ∧ Q (.int (if k then 1 else 0)) H) ∨ ∃ a n, xs = [.str a] ∧ PySem.intText? a = some n ∧ a.length ≤ 640 ∧ Q (.int n) H) := fInt_ok.or fIntS_ok
/-- whatever stands in a row: the kind shows itself -/
def iSeq (e : ME) : MI := fun ρ h => match e ρ h with
  | some (.ok (.str _) _) => iS e ρ h
  | some (.ok (.tup _) _) => iT e ρ h
  | _ => iL e ρ h
theorem iSeq' (hG : X.K = G.K) (h : PE X e (tE G Wx ma)) : PI X tg e (tI G Wx (iSeq ma)) := by
  have r1 : PI X tg e (tI G Wx (iS ma)) := iStr' h
  have r2 : PI X tg e (tI G Wx (iT ma)) := iTup' hG h
  have r3 : PI X tg e (tI G Wx (iL ma)) := iList' hG h
  refine ⟨fun pins s σ H R I ⟨μ, ρ, hm, st, p⟩ => ?_⟩
  unfold iSeq at p
  split at p
  · exact r1.run pins s σ H R I ⟨μ, ρ, hm, st, p⟩
  · exact r2.run pins s σ H R I ⟨μ, ρ, hm, st, p⟩
  · exact r3.run pins s σ H R I ⟨μ, ρ, hm, st, p⟩
theorem qAnd' (h : PT X a (tT G Wx mt)) {mu : MT} (k : PW X (.BoolOp .And (b :: es) pos) (tT G Wx mu)) : PT X (.BoolOp .And (a :: b :: es) pos) (tT G Wx (mTAnd mt mu)) := (qAnd h k).pt
theorem qOr' (h : PT X a (tT G Wx mt)) {mu : MT} (k : PW X (.BoolOp .Or (b :: es) pos) (tT G Wx mu)) : PT X (.BoolOp .Or (a :: b :: es) pos) (tT G Wx (mTOr mt mu)) := (qOr h k).pt
theorem units64 {k : Nat} {A : Around} (hr : Room k A) : A.units + 64 < cLine := by have := hr.un; omega
abbrev fIntA2 : MF := fun ws h => match fInt ws h with | some z => some z | none => fIntS ws h
end
end ML

set_option maxHeartbeats 4000000
/-! the computations, step by step -/
namespace ML
open PySem L2
section
variable {ρ : Ev} {h : Hm} {i j : Int} {a b : Str}
@[simp] theorem ev_oI0 {g : Int → Int → U} : oI0 g (.int i) (.int j) h = some (.ok (g i j) h) := rfl
@[simp] theorem ev_oI {C : Int → Int → Bool} {g : Int → Int → U} : oI C g (.int i) (.int j) h = if C i j = true then some (.ok (g i j) h) else none := rfl
@[simp] theorem ev_addI : oAdd (.int i) (.int j) h = some (.ok (.int (i + j)) h) := rfl
@[simp] theorem ev_addS : oAdd (.str a) (.str b) h = if a.length + b.length ≤ LIM then some (.ok (.str (a ++ b)) h) else none := by
  unfold oAdd oAddS
  by_cases hl : a.length + b.length ≤ LIM
  · simp [hl, oI0]
  · simp [hl, oI0, oAddL, oAddT2]
@[simp] theorem ev_mulA : oMulA (.int i) (.int j) h = if cMul i j = true then some (.ok (.int (i * j)) h) else none := by
  unfold oMulA
  by_cases hl : cMul i j = true
  · simp [hl]
  · simp [hl, oRep]
@[simp] theorem ev_eqI {n : Nat} : oEq n (.int i) (.int j) h = some (.ok (.bl (decide (i = j))) h) := by simp [oEq, oEqS, sEq]
@[simp] theorem ev_eqS {n : Nat} : oEq n (.str a) (.str b) h = some (.ok (.bl (decide (a = b))) h) := by simp [oEq, oEqS, sEq]
@[simp] theorem ev_neS {n : Nat} : oNe n (.str a) (.str b) h = some (.ok (.bl (!decide (a = b))) h) := by simp [oNe, oEqS, sEq]
@[simp] theorem ev_neI {n : Nat} : oNe n (.int i) (.int j) h = some (.ok (.bl (!decide (i = j))) h) := by simp [oNe, oEqS, sEq]
@[simp] theorem ev_int : fIntA2 [.int i] h = some (.ok (.int i) h) := rfl
@[simp] theorem ev_intB {k : Bool} : fIntA2 [.bl k] h = some (.ok (.int (if k then 1 else 0)) h) := rfl
@[simp] theorem ev_abs : fAbs [.int i] h = some (.ok (.int (if i < 0 then -i else i)) h) := rfl
@[simp] theorem ev_rdL {l : Nat} {ws : List U} (e : h[l]? = some (.lst ws)) : rd h l = some ws := by simp [rd, e]
theorem ev_ix {l : Nat} {ws : List U} {w : U} (e : rd h l = some ws) (e2 : atI ws i = some w) : oIx (.ref l) (.int i) h = some (.ok w h) := by simp [oIx, e, e2]
theorem ev_ixT {ws : List U} {w : U} (e2 : atI ws i = some w) : oIx (.tup ws) (.int i) h = some (.ok w h) := by simp [oIx, e2]
theorem ev_ixS {c : Nat} (e2 : atI a.cps.toList i = some c) (hl : a.length ≤ LIM) : oIx (.str a) (.int i) h = some (.ok (.str ⟨#[c]⟩) h) := by simp [oIx, e2, hl]
theorem ev_len {l : Nat} {ws : List U} (e : rd h l = some ws) : fLen [.ref l] h = some (.ok (.int ws.length) h) := by simp [fLen, e]
@[simp] theorem ev_lenS : fLen [.str a] h = if a.length ≤ LIM then some (.ok (.int a.length) h) else none := rfl
@[simp] theorem ev_lenT {ws : List U} : fLen [.tup ws] h = some (.ok (.int ws.length) h) := rfl
theorem atI_0 {α : Type} {x : α} {xs : List α} : atI (x :: xs) 0 = some x := by
  simp [atI, ixN]
end
end ML

set_option maxHeartbeats 4000000
/-! loops and comprehensions whose turns are known; texts -/
namespace ML
open PySem L2
section
variable {ρ : Ev} {h : Hm}
theorem lcGo_pure {chk : Hm → Prop} {t : NT} {te : ME} {D : Nat} {g : U → U} (hD : ∃ h1, ∀ acc, chk (h1 ++ [.lst acc])) : True := trivial
theorem lc_pure {it : MI} {t : NT} {te : ME} {vs : List Nat} {h1 : Hm} {ws : List U} {chk : Hm → Prop} {g : U → U} (hi : it ρ h = some (.ok (ws, chk) h1)) (hc : ∀ acc, chk (h1 ++ [.lst acc]))
    (hl : ws.length ≤ LIM) (ht : ∀ w ∈ ws, ∃ ρ1, t.set w (wipeE ρ vs) = some ρ1 ∧ ∀ acc, te ρ1 (h1 ++ [.lst acc]) = some (.ok (g w) (h1 ++ [.lst acc]))) :
    mLc it t mYes te vs ρ h = some (.ok (.ref h1.length) (h1 ++ [.lst (ws.map g)])) := by
  unfold mLc
  rw [hi]
  simp only [bnd_ok]
  have key : ∀ (us acc : List U), (∀ w ∈ us, w ∈ ws) → acc.length + us.length ≤ LIM → lcGo chk t mYes te (wipeE ρ vs) h1.length us (h1 ++ [.lst acc]) = some (.ok (.ref h1.length) (h1 ++ [.lst (acc ++ us.map g)])) := by
    intro us
    induction us with
    | nil => intro acc _ _; unfold lcGo; rw [if_pos (hc acc)]; simp
    | cons w us ih =>
      intro acc hm hl
      obtain ⟨ρ1, e1, e2⟩ := ht w (hm w List.mem_cons_self)
      unfold lcGo
      rw [if_pos (hc acc), e1]
      simp only [mYes, noEx, bnd_ok, if_true, e2]
      have : (h1 ++ [Cell.lst acc])[h1.length]? = some (.lst acc) := by simp
      rw [this]
      simp only
      simp only [List.length_cons] at hl
      rw [if_pos (by omega)]
      have e3 : (h1 ++ [Cell.lst acc]).set h1.length (.lst (acc ++ [g w])) = h1 ++ [.lst (acc ++ [g w])] := by
        rw [List.set_append_right _ _ (Nat.le_refl _)]
        simp
      rw [e3, ih (acc ++ [g w]) (fun u hu => hm u (List.mem_cons_of_mem _ hu)) (by simp; omega)]
      simp
  have := key ws [] (fun w hw => hw) (by simpa using hl)
  simpa using this
theorem blsOf_map {α : Type} {p : α → Bool} : ∀ (L : List α), blsOf (L.map fun c => .bl (p c)) = some (L.map p)
  | [] => rfl
  | c :: L => by
    show (match blsOf (L.map fun c => U.bl (p c)) with
      | some bs => some (p c :: bs)
      | none => none) = _
    rw [blsOf_map L]
    rfl
/-- a loop each turn of which goes on -/
theorem for_nil {chk : Hm → Prop} {g : MG} {body : MS} (hc : chk h) : forC chk g body [] ρ h = some (.nx ρ h) := by
  unfold forC; rw [if_pos hc]
theorem for_cons {chk : Hm → Prop} {g : MG} {body : MS} {w : U} {ws : List U} {ρ1 ρ2 : Ev} {h2 : Hm} (hc : chk h) (hg : g w ρ = some ρ1) (hb : body ρ1 h = some (.nx ρ2 h2)) : forC chk g body (w :: ws) ρ h = forC chk g body ws ρ2 h2 := by
  conv => lhs; unfold forC
  rw [if_pos hc, hg]
  simp only [hb]
theorem for_rt {chk : Hm → Prop} {g : MG} {body : MS} {w x : U} {ws : List U} {ρ1 : Ev} {h2 : Hm} (hc : chk h) (hg : g w ρ = some ρ1) (hb : body ρ1 h = some (.rt x h2)) : forC chk g body (w :: ws) ρ h = some (.rt x h2) := by
  conv => lhs; unfold forC
  rw [if_pos hc, hg]
  simp only [hb]
theorem str_ext {a b : Str} (h : a.cps.toList = b.cps.toList) : a = b := by
  cases a; cases b
  simp only at h
  congr
  exact Array.toList_inj.mp h
theorem str_eq_iff {a b : Str} : a = b ↔ a.cps.toList = b.cps.toList := ⟨fun h => by rw [h], str_ext⟩
theorem str_len (a : Str) : a.length = a.cps.toList.length := by simp [Str.length]
theorem str_app (a b : Str) : (a ++ b).cps.toList = a.cps.toList ++ b.cps.toList := by
  show (a.cps ++ b.cps).toList = _
  simp
theorem str_app_len (a b : Str) : (a ++ b).length = a.length + b.length := by
  rw [str_len, str_app, List.length_append, ← str_len, ← str_len]
def isDig (c : Nat) : Bool := decide (48 ≤ c) && decide (c ≤ 57)
theorem digs : ("0123456789" : Str).cps.toList = [48, 49, 50, 51, 52, 53, 54, 55, 56, 57] := by decide +kernel
theorem digs_mem (c : Nat) : (decide (c ∈ ("0123456789" : Str).cps.toList)) = isDig c := by
  rw [digs, isDig]
  simp only [List.mem_cons, List.not_mem_nil, or_false]
  by_cases h : 48 ≤ c ∧ c ≤ 57
  · have : c = 48 ∨ c = 49 ∨ c = 50 ∨ c = 51 ∨ c = 52 ∨ c = 53 ∨ c = 54 ∨ c = 55 ∨ c = 56 ∨ c = 57 := by omega
    simp [h.1, h.2, this]
  · have : ¬ (c = 48 ∨ c = 49 ∨ c = 50 ∨ c = 51 ∨ c = 52 ∨ c = 53 ∨ c = 54 ∨ c = 55 ∨ c = 56 ∨ c = 57) := by omega
    simp only [this, decide_false]
    by_cases h1 : 48 ≤ c <;> by_cases h2 : c ≤ 57 <;> simp [h1, h2] at h ⊢
theorem find_one (z : Str) (c : Nat) : (Txt.find z ⟨#[c]⟩ = -1 ∧ c ∉ z.cps.toList) ∨ ∃ i : Nat, Txt.find z ⟨#[c]⟩ = (i : Int) ∧ z.cps.toList[i]? = some c := by
  have at_ : ∀ i, StrLaws.At z ⟨#[c]⟩ z.length i ↔ z.cps.toList[i]? = some c := fun i => by
    unfold StrLaws.At Builtin.Str.subAt
    show i + 1 ≤ z.cps.size ∧ (z.cps.extract i (i + 1) == #[c]) = true ↔ _
    rw [beq_iff_eq]
    constructor
    · rintro ⟨h1, h2⟩
      have : (z.cps.extract i (i + 1))[0]? = some c := by rw [h2]; rfl
      rw [Array.getElem?_extract] at this
      simp at this
      rw [Array.getElem?_toList]
      have := this.2
      simpa using this
    · intro e
      rw [Array.getElem?_toList] at e
      have hi := (Array.getElem?_eq_some_iff.mp e).1
      refine ⟨hi, ?_⟩
      apply Array.ext
      · simp; omega
      · intro j h1 h2
        simp at h2
        subst h2
        simp
        exact (Array.getElem?_eq_some_iff.mp e).2
  rcases PyProof.Rows.find_whole z ⟨#[c]⟩ with ⟨e, no⟩ | ⟨i, e, hi, _⟩
  · refine .inl ⟨e, fun hc => ?_⟩
    obtain ⟨i, hi⟩ := List.getElem?_of_mem hc
    exact no i ((at_ i).mpr hi)
  · exact .inr ⟨i, e, (at_ i).mp hi⟩
theorem find_dig (c : Nat) : Txt.find ("0123456789" : Str) ⟨#[c]⟩ = if isDig c = true then ((c - 48 : Nat) : Int) else -1 := by
  rcases find_one "0123456789" c with ⟨e, no⟩ | ⟨i, e, hi⟩
  · have := digs_mem c
    rw [decide_eq_false no] at this
    rw [e, ← this]
    rfl
  · rw [e]
    rw [digs] at hi
    have hl := (List.getElem?_eq_some_iff.mp hi).1
    have hl : i < 10 := hl
    have : c = 48 + i := by
      rcases i with _ | _ | _ | _ | _ | _ | _ | _ | _ | _ | i <;> first | omega | (simp at hi; omega)
    subst this
    rw [if_pos (by unfold isDig; simp; omega)]
    simp
end
end ML

set_option maxHeartbeats 4000000
/-! raise of an own error that has no __init__ of its own -/
namespace ML
open PySem PySem.Spec PyProof.Rows L2
section
variable {X : Cx} {pos p p' : Pos} {x : Str} {C : Addr}
theorem pmk_bare {bmB : List Value} {B newId initId : String} (F : ExcBaseFacts B newId initId bmB) (q : PySem.W.excIn X.K C bmB newId = true) (gC : X.mg x = some (.ref C)) (kC : PySem.W.keepIn X.K (.ref C) = true) (r : Raises X (.ref C)) (hg : Gl X x)
    (hdb : (x == ("__debug__" : Str)) = false) : PMk X (.Call (.Name x p) [] [] pos) (fun _ H Q => Q (.ref C) none H) := by
  intro pins s σ H Q I h
  refine wpAny_Call_Name_kw (ld_glob I hg gC ?_ hdb)
  obtain ⟨bm, N, nm, qn, bs, hdct, sn, sub, ab, col, dd, k0, k1, k2, k3, k5, mN, hC, hN, hni, T⟩ := exc_obj I.kIn q
  exact PySem.W.callWith_K0 I.kIn kC (wpAny_call_exc_subT F T hC hN hni (fun h' e hm => mk_of I hm r h (I.hok.gone hm.new)) (Nat.zero_le _))
def mRaise0 (c : Nat) : MS := fun ρ h => some (.ex c [] ρ h)
structure BareErr (G : Gm) (mg : Str → Option Value) (x : Str) (c : Nat) : Prop where
  ex : ∃ (bmB : List Value) (B newId initId : String), ExcBaseFacts B newId initId bmB ∧ PySem.W.excIn G.K (G.ca c) bmB newId = true
  gl : mg x = some (.ref (G.ca c))
  kp : PySem.W.keepIn G.K (.ref (G.ca c)) = true
  h1 : PySem.W.subIn G.K (.ref (G.ca c)) (.type "BaseException") = some true
  h2 : PySem.W.typeIn G.K (.ref (G.ca c)) = some (.type "type")
theorem dRaise0 {G : Gm} {Wx : WX} {c : Nat} (hG : X.K = G.K) (b : BareErr G X.mg x c) (tk : Takes X Wx) (hc : X.calm = true) (hg : X.env.kindOf x = some .globalImplicit) (hd : (x == ("__debug__" : Str)) = false) :
    PS X (.Raise (some (.Call (.Name x p) [] [] pos)) none p') (tS G Wx (mRaise0 c)) := by
  obtain ⟨⟨bmB, B, newId, initId, F, q⟩, gl, kp, h1, h2⟩ := b
  obtain ⟨K, ca⟩ := G
  subst hG
  refine (ps_raise hc tk (pmk_bare F q gl kp (raises_own h1 h2) hg hd)).weak fun D σ H ⟨μ, ρ, h, s, p⟩ => ?_
  exact p μ σ H (.ref (ca c)) none (Gr.refl s.rel) s ⟨rfl, .inl ⟨rfl, rfl⟩⟩
end
end ML

set_option maxHeartbeats 4000000
/-! an own error's __init__ that keeps a new list of its argument -/
namespace ML
open PySem L2
def mkL (f : Str) : MX := fun ws h => match (match ws with
    | [.ref i] => rd h i
    | [.tup us] => some us
    | _ => none) with
  | some us => some ([(f, .ref h.length)], h ++ [.lst us])
  | none => none
section
variable {G : Gm} {CX : CXT} {P : Program} {w : World} {mg : Str → Option Value} {base : Heap} {k : Nat} {f cc cda : Addr} {c : Nat} {name qual : Str} {params : Arguments} {m : Str} {j0 : Nat} {p0 p1 p2 p3 p4 p5 q1 q2 q3 q4 q5 q6 : Pos} {scope : Scope} {dV kV doc pm ct oc : Value} {an od : Option Addr}
    {osl : Array (Option Value)} {pn fn : Str}
theorem init_lst (lk : G.K.lookup f = some ⟨oc, od, .func (PySem.W.ksFn name qual params [.Expr (.Call (.Attribute (.Call (.Name "super" p0) [] [] p1) "__init__" p2) [.Constant (.str m) j0 p5] [] p3) p4, .Assign [.Attribute (.Name "self" q1) fn q2] (.Call (.Name "list" q5) [.Name pn q3] [] q6) q4] scope dV kV doc pm an (.ref cda) ct cc), osl⟩)
    (T : SupTxt G.K mg (G.ca c) f cc cda qual) (S : SupScope ["self", pn] ["self", pn] scope) (hfile : ((P.main.file : Str) == ("/claim/cut.py" : Str)) = true) (htop : (P.main.scope.names.lookup ("super" : Str)).isSome = false)
    (har : ∃ ar : Arg, (params.posonlyargs ++ params.args).head? = some ar ∧ ([("self" : Str), pn]).head? = some ar.arg)
    (hswap : ∀ env : Env, swapsWith (.Call (.Attribute (.Call (.Name "super" p0) [] [] p1) "__init__" p2) [.Constant (.str m) j0 p5] [] p3) none p4.line env = pure false)
    (hmeth : ∀ env : Env, eval (.Call (.Attribute (.Call (.Name "super" p0) [] [] p1) "__init__" p2) [.Constant (.str m) j0 p5] [] p3) env = (do
      let ov ← attributeBase (.Call (.Name "super" p0) [] [] p1) "__init__" env (eval (.Call (.Name "super" p0) [] [] p1) env)
      standAt p2.atName
      let (f, first) ← holding [ov] (getMethod ov "__init__" (pure false))
      callWith p3 f first (backTo p3 (starEach [.Constant (.str m) j0 p5] env)) []))
    (hstar : ∀ env : Env, starEach [.Constant (.str m) j0 p5] env = (false, eval (.Constant (.str m) j0 p5) env) :: starEach [] env)
    (hlist : mg "list" = none) (hls : scope.names.lookup ("list" : Str) = some NameKind.globalImplicit) (hsw2 : ∀ env : Env, swapsWith (.Call (.Name "list" q5) [.Name pn q3] [] q6) (some (.Attribute (.Name "self" q1) fn q2)) q4.line env = pure false)
    (hpn : (pn == ("__debug__" : Str)) = false ∧ (pn == ("__classdict__" : Str)) = false) (hfn : PySem.W.findIn G.K (.ref (G.ca c)) fn = some none) :
    FnOk P w G.K mg base CX (k + 1) f (PySem.W.ksFn name qual params [.Expr (.Call (.Attribute (.Call (.Name "super" p0) [] [] p1) "__init__" p2) [.Constant (.str m) j0 p5] [] p3) p4, .Assign [.Attribute (.Name "self" q1) fn q2] (.Call (.Name "list" q5) [.Name pn q3] [] q6) q4] scope dV kV doc pm an (.ref cda) ct cc) ["self", pn] (spX G c 1 (mkL fn)) := by
  refine fnS_of lk T S hfile htop har (fun vs H Q E z => ?_) hswap hmeth hstar fun A outer s H vs Q E hr hsp => ?_
  · obtain ⟨a, xs, μ, h, ws, fs, h2, rfl, hl, _⟩ := z
    simp [hl]
  · obtain ⟨a, xs, μ, h, ws, fs, h2, rfl, hl, ha, rel, off, rs, em, q⟩ := hsp
    have hpe : PE (cxS CX P w G.K mg base ["self", pn] qual scope f (.ref cda) cc A outer s H E) (.Constant (.str m) j0 p5) (tC (.str m)) := pe_str
    refine ⟨a, _, _, rfl, ha, hpe, pss_one (ps_ost (pvS (i := 0) rfl (S.par _ (by simp)) (by decide) (by decide)) (pe_callTy call_list_of hls hlist (by decide +kernel) (pa_cons (pvS (i := 1) rfl (S.par _ (by simp)) hpn.1 hpn.2) pa_nil) (by decide) (by decide)) (hsw2 _)), ha, ?_⟩
    unfold mkL at em
    split at em
    · rename_i us eu
      cases em
      have key : ∃ p ys, xs = [.ref p] ∧ (SqL G.K H p ys ∨ SqT G.K H p ys) ∧ RUs G.K μ h.length H us ys := by
        split at eu
        · rename_i i
          obtain ⟨v, rfl, r⟩ := rus1 rs
          simp only [RU] at r
          obtain ⟨_, rfl⟩ := r
          obtain ⟨ys, sq, rr⟩ := rd_ok rel eu
          exact ⟨_, ys, rfl, .inl sq, rr⟩
        · rename_i us'
          cases eu
          obtain ⟨v, rfl, r⟩ := rus1 rs
          simp only [RU] at r
          obtain ⟨b, ys, rfl, st, rr⟩ := r
          exact ⟨_, ys, rfl, .inr st, rr⟩
        · cases eu
      obtain ⟨p, ys, rfl, sq, rr⟩ := key
      refine ⟨.ref p, rfl, p, ys, rfl, sq, fun l nl => ?_⟩
      have nal : a ≠ l := ne_of_none ha nl
      have ha' : upd H l (.lst ys) a = some (exo a (G.ca c) none) := by rw [upd_ne nal]; exact ha
      have gD := Gr.new (o := .lst ys) (c := .lst us) rel nl ⟨ys, upd_same, RUs.mono (fun i hi => nu_old hi) (Nat.le_succ _) (TS0.fresh nl) _ _ rr⟩
      have off' : ExcOff (nu μ h.length l) (h ++ [.lst us]) a := fun i k fs e => by
        by_cases hi : i < h.length
        · rw [List.getElem?_append_left hi] at e
          rw [nu_old hi]
          exact off i k fs e
        · have h1 := (List.getElem?_eq_some_iff.mp e).1
          have h2 : i = h.length := by simp at h1; omega
          subst h2
          simp at e
      refine ⟨.ref a, rfl, a, G.ca c, rfl, T.ox, hfn, .inl ⟨ha', fun dx nd da => ?_⟩⟩
      exact q _ (upd H l (.lst ys)) dx [(fn, .ref l)] gD ha' off' nd da (fun b z => by
        by_cases hb : b = l
        · rw [hb, upd_same]; simp
        · rw [upd_ne hb]; exact z) (rf1 (by simp only [RU]; exact ⟨by simp, by rw [nu_new]⟩))
    · cases em
end
end ML

set_option maxHeartbeats 4000000
/-! from the function of the law's top to the promise -/
namespace ML
open PySem L2
def spLaw (K : PySem.W.Frag) : Sp := fun vs H Q _ => ∃ (a : Addr) (ns : List Int), vs = [.ref a] ∧ SqL K H a (ns.map V.int) ∧ ns.length ≤ 63 ∧ ∀ H', Q (.bl true) H'
theorem rus_ints {K : PySem.W.Frag} {μ : Nat → Addr} {n : Nat} {H : Hp} : ∀ ns : List Int, RUs K μ n H (ns.map U.int) (ns.map V.int)
  | [] => RUs.nil
  | n :: ns => RUs.cons (by simp only [RU]) (rus_ints ns)
theorem one_cell {G : Gm} {H : Hp} {a : Addr} {c : Cell} (r : RCell G (fun _ => a) 1 H a c) : HRel G (fun _ => a) [c] H := by
  refine ⟨fun i d e => ?_, fun i j d1 d2 e1 e2 _ _ _ => ?_⟩
  · have hi := (List.getElem?_eq_some_iff.mp e).1
    have hi : i = 0 := by simp at hi; exact hi
    subst hi
    cases e
    exact r
  · have hi := (List.getElem?_eq_some_iff.mp e1).1
    have hj := (List.getElem?_eq_some_iff.mp e2).1
    simp at hi hj
    omega
theorem law_to {P : Program} {w : World} {G : Gm} {mg : Str → Option Value} {base : Heap} {k : Nat} {f : Addr} {fd : FuncData} {x : Str} {m : MF} (F : FnM P w G mg base k f fd [x] m)
    (hm : ∀ (ns : List Int) (c : Cell), ns.length ≤ 63 → (c = .lst (ns.map U.int) ∨ c = .frz (ns.map U.int)) → ∃ h', m [.ref 0] [c] = some (.ok (.bl true) h')) : FnOk P w G.K mg base (L2.CX P w) k f fd [x] (spLaw G.K) :=
  FnOk.imp F fun vs H Q E ⟨a, ns, ev, sq, hl, q⟩ => by
    subst ev
    have fin : ∀ c, (c = .lst (ns.map U.int) ∨ c = .frz (ns.map U.int)) → RCell G (fun _ => a) 1 H a c → spM G [x].length m [.ref a] H Q E := fun c hc r => by
      obtain ⟨h', e⟩ := hm ns c hl hc
      refine ⟨fun _ => a, [c], [.ref 0], one_cell r, RUs.cons (by simp [RU]) RUs.nil, rfl, ?_⟩
      rw [e]
      intro μ' H' g v rv
      simp only [RU] at rv
      subst rv
      exact q H'
    rcases sq with (sq | ⟨o, sq⟩) | sq
    · exact fin _ (.inl rfl) ⟨_, sq, rus_ints ns⟩
    · exact fin _ (.inr rfl) ⟨_, .inl ⟨o, sq⟩, rus_ints ns⟩
    · exact fin _ (.inr rfl) ⟨_, .inr sq, rus_ints ns⟩
theorem law_walk {l : PySem.W.OpenLaw} {q : Program} {loose : List Str} {XP : (Str → Option Value) → Heap → Prop} {YP : World → Heap → Prop} {d : DefRec} {K : Params → PySem.W.Frag} {k : Nat} {x : Str} (hn : l.most = some 63) (hdf : d.params.defaults = []) (hk : Room k callerA)
    (hY : ∀ (w : World) (h : Heap), YP w h → (K w.params).In h)
    (F : ∀ (w : World) (mg : Str → Option Value) (fa : Addr) (h : Heap), (K w.params).In h → h.Ns mainGlobals mg → mg d.name = some (.ref fa) →
      ∃ fd : FuncData, (∀ (s : Shared) (u : Value), BindsTo s fd ⟨[u], []⟩ [(x, u)]) ∧ ∀ base : Heap, (K w.params).In base → base.Ns mainGlobals mg → FnOk l.prog w (K w.params) mg base (L2.CX l.prog w) k fa fd [x] (spLaw (K w.params))) :
    PySem.W.WalkO q loose XP YP l.row.toRowW d [] (fun f vs => PySem.call f vs) :=
  L2.walk_of (n := 63) (k := k) (x := x) (CX := fun w => L2.CX l.prog w) (sp := fun w => spLaw (K w.params)) hn (by decide) hdf hk hY F (fun _ _ a ns hl _ hS => ⟨a, ns, rfl, hS, hl, fun _ => rfl⟩)
    fun _ _ _ _ _ ⟨_, _, _, _, _, _, _, _, _, _, _, _, z⟩ => z
theorem mk1_ok {f : Str} : ∀ ws h r, mk1 f ws h = some r → True ∧ mk1 f ws h = some r := fun _ _ _ e => ⟨trivial, e⟩
theorem mk2_ok {f g : Str} : ∀ ws h r, mk2 f g ws h = some r → True ∧ mk2 f g ws h = some r := fun _ _ _ e => ⟨trivial, e⟩
theorem mk2s_ok {f g : Str} : ∀ ws h r, mk2s f g ws h = some r → (∃ s, ws[0]? = some (.str s) ∧ s.length ≤ LIM) ∧ mk2 f g ws h = some r := fun ws h r e => by
  unfold mk2s at e
  split at e
  · rename_i s u
    split at e
    · rename_i hl
      exact ⟨⟨s, rfl, hl⟩, e⟩
    · cases e
  · cases e
theorem mk2t_ok {f g : Str} : ∀ ws h r, mk2t f g ws h = some r → (∃ s, ws[1]? = some (.str s) ∧ s.length ≤ LIM) ∧ mk2 f g ws h = some r := fun ws h r e => by
  unfold mk2t at e
  split at e
  · rename_i w s
    split at e
    · rename_i hl
      exact ⟨⟨s, rfl, hl⟩, e⟩
    · cases e
  · cases e
theorem binds1 {K : PySem.W.Frag} {fd : FuncData} {x y : Str} (h : ∀ a b, bindArgs fd ⟨[a, b], []⟩ = pure [(x, a), (y, b)]) : Binds K fd [x, y] [] := fun s us _ hl => by
  match us, hl with
  | [a, b], _ => exact BindsTo.of_eq (h a b)
theorem binds2 {K : PySem.W.Frag} {fd : FuncData} {x y z : Str} (h : ∀ a b c, bindArgs fd ⟨[a, b, c], []⟩ = pure [(x, a), (y, b), (z, c)]) : Binds K fd [x, y, z] [] := fun s us _ hl => by
  match us, hl with
  | [a, b, c], _ => exact BindsTo.of_eq (h a b c)
theorem exm_of {K : PySem.W.Frag} {S T : Addr} {b : Bool} (h1 : PySem.W.subIn K (.ref S) (.type "BaseException") = some true) (h2 : PySem.W.isClsIn K S = true) (h3 : PySem.W.typeIn K (.ref S) = some (.type "type")) (h4 : PySem.W.subIn K (.ref T) (.ref S) = some b) :
    PySem.W.exmOne K (.ref T) (.ref S) = some b := by
  have h2' : (PySem.W.clsIn K S).isSome = true := h2
  unfold PySem.W.exmOne PySem.W.kitCls
  rw [h1, if_pos (by rfl)]
  simp only
  rw [h2', h3, if_pos (by rfl)]
  exact h4
theorem kit_of {K : PySem.W.Frag} {S T : Addr} {b : Bool} (h2 : PySem.W.isClsIn K S = true) (h3 : PySem.W.typeIn K (.ref S) = some (.type "type")) (h4 : PySem.W.subIn K (.ref T) (.ref S) = some b) (h5 : PySem.W.mroIn K S (.ref S) = some true) :
    PySem.W.kitOne K (.ref T) (.ref S) = some b := by
  have h2' : (PySem.W.clsIn K S).isSome = true := h2
  unfold PySem.W.kitOne
  split
  · rename_i e
    have e := eq_of_beq e
    cases e
    have h4 : PySem.W.mroIn K S (.ref S) = some b := h4
    rw [← h4, h5]
  · unfold PySem.W.kitCls
    simp only
    rw [h2', h3, if_pos (by rfl)]
    exact h4
theorem sup_of {K : PySem.W.Frag} {C D : Addr} {name nm q nm' q' : Str} {N N' : Addr} {bs bs' bm' : List Value} {sn sn' : List Str} {sub sub' : List Value} {ab ab' : Bool} {col col' : Option Bool} {dd dd' : Option Addr} {m0 m1 m2 m3 m5 m0' m1' m2' m3' m5' : Option Value} {w w' : String} {r : Option Value}
    (x : K.lookup C = some (excClassObj nm q C N bs (.ref D :: bm') true sn sub ab col dd m0 m1 m2 m3 m5 w)) (y : K.lookup D = some (excClassObj nm' q' D N' bs' bm' true sn' sub' ab' col' dd' m0' m1' m2' m3' m5' w'))
    (f : PySem.W.findIn K (.ref D) name = some r) : PySem.W.ks_superIn K C C name = some r := by
  unfold PySem.W.ks_superIn PySem.W.clsIn
  unfold PySem.W.findIn at f
  rw [x]
  simp only [excClassObj] at y f ⊢
  rw [y] at f
  simp only at f
  simp only [Option.bind_some]
  have : (Value.ref C != Value.ref C) = false := by simp
  rw [List.dropWhile_cons, this]
  exact f
theorem cls_of {K : PySem.W.Frag} {S : Addr} (h : PySem.W.isClsIn K S = true) : (PySem.W.clsIn K S).isSome = true := h
theorem kit_b {K : PySem.W.Frag} {C : Addr} {T : String} {b : Bool} (hT : PySem.W.kitMeta T = true) (h : PySem.W.subIn K (.ref C) (.type T) = some b) : PySem.W.kitOne K (.ref C) (.type T) = some b := by
  unfold PySem.W.kitOne
  split
  · rename_i e
    have e := eq_of_beq e
    cases e
  · unfold PySem.W.kitCls
    simp only
    rw [if_pos hT]
    exact h
end ML

set_option maxHeartbeats 4000000
/-! tables of own errors, built row by row -/
namespace ML
open PySem L2
section
variable {G : Gm} {f : Str} {a b c : Nat} {cv : Value} {t : Nat → Option Bool} {k : Bool}
def AtE (G : Gm) (f : Str) (a : Nat) : Prop := ExcK G.K (G.ca a) ∧ PySem.W.findIn G.K (.ref (G.ca a)) f = some none
theorem atx0 : AtX G f (fun _ => false) (fun _ => false) := ⟨fun c hc => (nomatch hc), fun c hc => (nomatch hc)⟩
theorem atx1 (h : AtE G f a) : AtX G f (fun _ => false) (fun c => decide (c = a)) := ⟨fun c hc => (nomatch hc), fun c hc => by rw [of_decide_eq_true hc]; exact h⟩
theorem atxN {e : Nat → Bool} (h : AtX G f (fun _ => false) e) (q : AtE G f a) : AtX G f (fun _ => false) (fun c => e c || decide (c = a)) := ⟨fun c hc => (nomatch hc), fun c hc => by
  rcases Bool.or_eq_true_iff.mp hc with hc | hc
  · exact h.exc c hc
  · rw [of_decide_eq_true hc]; exact q⟩
theorem tak_nil : TakC G (fun _ => none) cv := fun k b h => (nomatch h)
theorem tak_cons (h : PySem.W.exmOne G.K (.ref (G.ca a)) cv = some k) (q : TakC G t cv) : TakC G (fun c => if c = a then some k else t c) cv := fun c b e => by
  have e : (if c = a then some k else t c) = some b := e
  by_cases hc : c = a
  · subst hc
    rw [if_pos rfl] at e
    cases e
    exact h
  · rw [if_neg hc] at e
    exact q c b e
def tabX (t : Nat → Option Bool) : TyK → Option Bool
  | .exc c => t c
  | _ => none
/-- what the table says is so -/
def KitT (G : Gm) (t : Nat → Option Bool) (u : Value) : Prop := ∀ c b, t c = some b → PySem.W.kitOne G.K (.ref (G.ca c)) u = some b ∧ ExcK G.K (G.ca c)
theorem kit_nil : KitT G (fun _ => none) cv := fun k b h => (nomatch h)
theorem kit_cons (h : PySem.W.kitOne G.K (.ref (G.ca a)) cv = some k) (e : ExcK G.K (G.ca a)) (q : KitT G t cv) : KitT G (fun c => if c = a then some k else t c) cv := fun c b z => by
  have z : (if c = a then some k else t c) = some b := z
  by_cases hc : c = a
  · subst hc
    rw [if_pos rfl] at z
    cases z
    exact ⟨h, e⟩
  · rw [if_neg hc] at z
    exact q c b z
theorem isi_tab {v : V} (cl : ClsV v cv) (q : KitT G t cv) : IsiC G (tabX t) v cv := ⟨cl, fun k b h => by
  cases k with
  | exc c => exact (q c b h).1
  | _ => (cases h), fun c b h => (nomatch h), fun c b h => (q c b h).2⟩
end
end ML

set_option maxHeartbeats 4000000
/-! own classes: making, methods, attributes, own comparisons, as they are printed -/
namespace ML
open PySem L2
section
variable {X : Cx} {G : Gm} {Wx : WX} {e a b o : Expr} {es : List Expr} {x f m : Str} {pos p p' apos : Pos} {ma mb mo : ME} {mas : MA}
theorem dSetAt {ok : Nat → Bool} (hG : X.K = G.K) (t : AtC G f ok) (he : PE X e (tE G Wx ma)) (ho : PE X o (tE G Wx mo)) (hs : swapsWith e (some (.Attribute o f p')) pos.line X.env = pure false) : PS X (.Assign [.Attribute o f p'] e pos) (tS G Wx (mSetAt f ok mo ma)) := by
  have r := ps_fld ho he hs
  rw [hG] at r
  exact r.weak (w_setAt t)
/-- an own class that is made by its own __init__ -/
structure OwnCls (P : Program) (w : World) (G : Gm) (mg : Str → Option Value) (base : Heap) (x : Str) (k c n : Nat) (m : MF) : Prop where
  gl : mg x = some (.ref (G.ca c))
  ex : ∃ fI fd ps, Mk G.K (G.ca c) fI ∧ Binds G.K fd ps [] ∧ ps.length = n + 1 ∧ FnM P w G mg base k fI fd ps m
theorem dMake {k j c n : Nat} {mf : MF} (hG : X.K = G.K) (oc : OwnCls X.prog X.w G X.mg X.base x k c n mf) (hr : Room j X.A) (hk : k + 1 ≤ j) (tk : Takes X Wx) (ha : PA X (e :: es) (tA G Wx mas)) (al : AL mas n) (hg : X.env.kindOf x = some .globalImplicit) (hd : (x == ("__debug__" : Str)) = false) (so : StarOk X pos e es) :
    PE X (.Call (.Name x p) (e :: es) [] pos) (tE G Wx (mMake c mf mas)) := by
  obtain ⟨fI, fd, ps, M, hb, hl, F⟩ := oc.ex
  have gl := oc.gl
  unfold FnM at F
  rw [hl] at F
  obtain ⟨K, ca⟩ := G
  subst hG
  exact (pe_makeS M F (hr.mono hk) hg gl hb (passAt tk) ha hd so.s so.p).weak (w_make al)
/-- a method of an own class -/
structure OwnMeth (P : Program) (w : World) (G : Gm) (mg : Str → Option Value) (base : Heap) (m : Str) (k c n : Nat) (mf : MF) : Prop where
  cl : Cls G.K (G.ca c)
  ex : ∃ f fd ps, Meth G.K (G.ca c) m f ∧ Binds G.K fd ps [] ∧ ps.length = n + 1 ∧ FnM P w G mg base k f fd ps mf
theorem dMeth {k j c n : Nat} {mf : MF} {pl : Sem Bool} (hG : X.K = G.K) (om : OwnMeth X.prog X.w G X.mg X.base m k c n mf) (hr : Room j X.A) (hk : k ≤ j) (tk : Takes X Wx) (ho : PE X o (tE G Wx mo)) (ha : PA X (e :: es) (tA G Wx mas)) (al : AL mas n) (so : StarOk X pos e es)
    (ht : eval (.Call (.Attribute o m apos) (e :: es) [] pos) X.env = (do
      let ov ← eval o X.env
      standAt apos.atName
      let (f, first) ← holding [ov] (getMethod ov m pl)
      callWith pos f first (backTo pos (starEach (e :: es) X.env)) (backToKw pos (keywordEach [] X.env)))) :
    PE X (.Call (.Attribute o m apos) (e :: es) [] pos) (tE G Wx (mMeth c m mf mo mas)) := by
  obtain ⟨f, fd, ps, M, hb, hl, F⟩ := om.ex
  have cl := om.cl
  unfold FnM at F
  rw [hl] at F
  obtain ⟨K, ca⟩ := G
  subst hG
  exact (pe_methS ho cl M F (hr.mono hk) hb (passAt tk) ha so.s so.p ht).weak (w_meth al)
/-- x op y by an own def of the class of x -/
def rOwnI (K : PySem.W.Frag) (C : Addr) (sp : Sp) : R2 := fun x y H Q => ∃ a dx fs b C' dy gs, x = .ref a ∧ y = .ref b ∧ H a = some (.ins C dx fs) ∧ H b = some (.ins C' dy gs) ∧ PySem.W.notFirst K C (.ref C') = true ∧ sp [x, y] H Q fun _ _ _ => False
theorem typ_ins {pins : List (Addr × Obj)} {σ : L2.St} {H : Hp} {s : Shared} {a C dx : Addr} {fs : List (Str × V)} (I : L2.Inv X pins σ H s) (h : H a = some (.ins C dx fs)) : ∃ od, PySem.W.InstAt s.heap a (PySem.W.instObj C dx) C (some od) := by
  obtain ⟨mA, O, _⟩ := ins_get I.hok h
  obtain ⟨od, J, _⟩ := O.look
  exact ⟨od, J⟩
theorem back_of {P : Value → Shared → Prop} {z : V} {v : Value} {s' : Shared} (r : RelV z v) (h : P v s') : PySem.W.CmpBack P v s' := by
  unfold PySem.W.CmpBack
  split
  · exfalso
    cases z <;> first | (exact Value.noConfusion r; done) | (obtain ⟨t, r⟩ := r; exact Value.noConfusion r; done) | skip
    all_goals (first | (exact Value.noConfusion (show _ = _ from r); done) | (obtain ⟨t, r⟩ := (show ∃ t, _ = _ from r); exact Value.noConfusion r; done) | cases r)
  · exact h
theorem op_ownI {CX : CXT} {C g : Addr} {k : Nat} {fd : FuncData} {ps : List Str} {sp : Sp} {op : CmpOp} (hop : ∀ a b, compareOp op a b = richCompare op a b) (hs : PySem.W.findIn X.K (.ref C) (cmpInfo op).2.1 = some (some (.ref g))) (hf : PySem.W.isFn X.K (.ref g) = true)
    (F : FnOk X.prog X.w X.K X.mg X.base CX k g fd ps sp) (hr : Room k X.A) (hb : Binds X.K fd ps []) (hx : ∀ σ, PassesAt CX X σ fun _ _ _ => False) : OpR X (compareOp op) (rOwnI X.K C sp) := by
  intro pins s σ H x y v u Q I rx ry h
  obtain ⟨a, dx, fs, b, C', dy, gs, rfl, rfl, ha, hb2, hn, q⟩ := h
  obtain rfl : v = Value.ref a := rx
  obtain rfl : u = Value.ref b := ry
  obtain ⟨od, J⟩ := typ_ins I ha
  obtain ⟨od', J'⟩ := typ_ins I hb2
  obtain ⟨m, fr⟩ := I.fr
  rw [hop]
  refine PySem.W.cmp_K hr.units0 fr I.ok.mod.kin J J'.type hn hs hf (wpAny_mono (run_fnS (E := fun _ _ _ _ => False) (us := [.ref a, .ref b]) (vs := [.ref a, .ref b]) F hr hb (hx σ) I (.cons rfl (.cons rfl .nil)) q) (fun w s' z => ?_) fun _ _ z => z)
  obtain ⟨z', H', I', rz, qz⟩ := z
  exact back_of rz ⟨z', H', I', rz, qz⟩
end
end ML

set_option maxHeartbeats 4000000
/-! x != y where the class of x has an own __eq__ alone -/
namespace ML
open PySem PySem.Spec PyProof.Rows L2
section
variable {prog : Program} {w : World} {A : Around} {E : Value → Shared → Prop} {s : Shared} {K : PySem.W.Frag} {x C : Addr} {ox : Obj} {od : Option Obj}
theorem bound_B {M : Model} {name : Str} {id : String} {args : List Value} {Q : Option Value → Shared → Prop} (hK : K.In s.heap) (J : PySem.W.InstAt s.heap x ox C od) (hs : PySem.W.findIn K (.ref C) name = some (some (.builtin id)))
    (hbind : ∀ self, bindSpecial (.builtin id) self = pure (.builtin id, [self])) (h : wpAny M A (call (.builtin id) (.ref x :: args)) (fun v => Q (some v)) E s) : wpAny M A (callSpecialIfBound? (.ref x) name args) Q E s := by
  unfold callSpecialIfBound?
  simp only [bindSpecialIfBound?]
  apply wpAny_holding
  refine wpAny_bind (wpAny_bind (wpAny_bind (J.type.here ((PySem.W.looks_findIn hK hs).here ?_))))
  simp only [hbind]
  refine wpAny_bind (wpAny_askSetting (wpAny_ite ?_))
  have done : wpAny M A (do let v ← call (.builtin id) ([.ref x] ++ args); pure (some v)) Q E s := by
    refine wpAny_bind (wpAny_mono h (fun v s' z => ?_) fun _ _ z => z)
    exact wpAny_pure z
  split
  · exact wpAny_bind (wpAny_pure (wpAny_pure (by exact done)))
  · exact wpAny_tryCatch (wpAny_bind (wpAny_pure (wpAny_pure (by exact done))))
/-- object.__ne__ over an own __eq__ that answers a truth value -/
theorem ne_entry {M : Model} {g : Addr} {b : Value} {Q : Fin → Shared → Prop} (hu : A.units < cLine) (hK : K.In s.heap) (J : PySem.W.InstAt s.heap x ox C od) (hs : PySem.W.findIn K (.ref C) "__eq__" = some (some (.ref g))) (hf : PySem.W.isFn K (.ref g) = true)
    (h : wpAny M A (call (.ref g) [.ref x, b]) (fun v s' => ∃ k, v = .bool k ∧ Q (.done (.ret (.bool !k))) s') E s) : wpAny M A (Builtin.«object.__ne__» ⟨[.ref x, b], []⟩) Q E s := by
  unfold Builtin.«object.__ne__»
  repeat (first | with_reducible refine wpAny_cRoomFor hu ?_ | with_reducible refine PySem.W.ifBound_K hK J hs hf (wpAny_mono h ?_ fun _ _ z => z) | wp_step)
  rintro v s' ⟨k, rfl, q⟩
  repeat wp_step
  exact q
/-- x op y by what the class of x has for it -/
theorem rich_one {op : CmpOp} {Q : Value → Shared → Prop} {b tb : Value} (hu : A.units < cLine) (hK : K.In s.heap) (J : PySem.W.InstAt s.heap x ox C od) (hb : PySem.W.Looks (model prog w) s.heap (typeOf b) tb) (hn : PySem.W.notFirst K C tb = true)
    (one : wpAny (model prog w) A (tryCompare (.ref x) (cmpInfo op).2.1 b) (fun r s' => ∃ v, r = some v ∧ Q v s') E s) : wpAny (model prog w) A (richCompare op (.ref x) b) Q E s := by
  have fin : ∀ {r : Option Value} {s' : Shared}, (∃ v, r = some v ∧ Q v s') → ∃ v, r = some v ∧ Q v s' := fun z => z
  unfold richCompare
  simp only [oneThing_ref]
  apply wpAny_holding
  refine wpAny_bind (wpAny_cRoomFor hu (wpAny_bind (J.type.here (wpAny_bind (hb.here ?_)))))
  split
  · rename_i q
    have e : PySem.W.subIn K tb (.ref C) = some false := by
      unfold PySem.W.notFirst at hn
      rcases Bool.or_eq_true_iff.mp hn with e | e
      · have e := eq_of_beq e
        subst e
        simp at q
      · exact eq_of_beq e
    refine wpAny_bind ((PySem.W.looks_subIn hK e).here ?_)
    simp only [Bool.false_eq_true, if_false]
    refine wpAny_bind (wpAny_mono one (fun r s' z => ?_) fun _ _ z => z)
    obtain ⟨v, rfl, z⟩ := z
    exact wpAny_pure z
  · refine wpAny_bind (wpAny_pure ?_)
    simp only [Bool.false_eq_true, if_false]
    refine wpAny_bind (wpAny_mono one (fun r s' z => ?_) fun _ _ z => z)
    obtain ⟨v, rfl, z⟩ := z
    exact wpAny_pure z
end
section
variable {X : Cx}
def rNeI (K : PySem.W.Frag) (C : Addr) (sp : Sp) : R2 := fun x y H Q => ∃ a dx fs b C' dy gs, x = .ref a ∧ y = .ref b ∧ H a = some (.ins C dx fs) ∧ H b = some (.ins C' dy gs) ∧ PySem.W.notFirst K C (.ref C') = true ∧ sp [x, y] H (fun z H' => ∃ k, z = .bl k ∧ Q (.bl !k) H') fun _ _ _ => False
theorem passN {X : Cx} {E : XK} (hE : ∀ c d H, ¬ E c d H) : Passes (L2.CX X.prog X.w) X E := by
  intro pins σ H s e s' I h
  obtain ⟨_, _, H', cls, d, _, _, _, _, _, _, _, z⟩ := h
  exact (hE _ _ _ z).elim
theorem op_neI {C g : Addr} {k : Nat} {fd : FuncData} {ps : List Str} {sp : Sp} (hne : PySem.W.findIn X.K (.ref C) "__ne__" = some (some (.builtin "object.__ne__"))) (hs : PySem.W.findIn X.K (.ref C) "__eq__" = some (some (.ref g))) (hf : PySem.W.isFn X.K (.ref g) = true)
    (hobj : PySem.W.subIn X.K (.ref C) (.type "object") = some true) (FO : FnOk X.prog X.w X.K X.mg X.base (L2.CX X.prog X.w) k g fd ps sp) (hr : Room (k + 2) X.A) (hb : Binds X.K fd ps []) : OpR X (compareOp .NotEq) (rNeI X.K C sp) := by
  intro pins s σ H x y v u Q I rx ry h
  obtain ⟨a, dx, fs, b, C', dy, gs, rfl, rfl, ha, hb2, hn, q⟩ := h
  obtain rfl : v = Value.ref a := rx
  obtain rfl : u = Value.ref b := ry
  obtain ⟨od, J⟩ := typ_ins I ha
  obtain ⟨od', J'⟩ := typ_ins I hb2
  have hu := hr.units0
  have hr1 : Room (k + 1) X.A.in1 := hr.in1
  have hr2 : Room k X.A.in1.in1 := hr1.in1
  have FR : FnR X.prog X.w X.K X.mg X.base (L2.CX X.prog X.w) k g sp := fun A outer s H us vs Q E r e v z => FO.run A outer s H ⟨us, []⟩ us vs Q E r e (by
    have hl : (us ++ []).length = ps.length := by rw [List.append_nil, ← v.length]; exact FO.len vs H Q E z
    have := hb s us (e.mod.kin.keeps fun b o q => (e.bs b o q).1) hl
    rw [List.append_nil] at this
    exact this) v z
  show wpAny _ _ (richCompare .NotEq (.ref a) (.ref b)) _ _ _
  refine rich_one hu I.kIn J J'.type hn ?_
  unfold tryCompare
  refine wpAny_bind (bound_B I.kIn J hne F.cmp_object.ne.bind ?_)
  refine wpAny_call (codeAny_call_builtin F.cmp_object.ne.plain F.cmpEntry_ne (PySem.W.check_slot F.cmpKind_ne F.cmpSplit_ne (J.type.andThen (PySem.W.looks_subIn I.kIn hobj)) (F.cmpArgs_ne _ _) ?_))
  refine ne_entry (A := X.A.in1) hr1.units0 I.kIn J hs hf (wpAny_mono (wpAny_call (SlX.run_at (us := [.ref a, .ref b]) (ws := [.ref a, .ref b]) FR (hr1.mono (Nat.le_succ _)) I.env0.in1 (passN fun _ _ _ z => z) I (.cons rfl (.cons rfl .nil)) q)) (fun v s' z => ?_) fun _ _ z => z)
  obtain ⟨z', H', I', rz, k', rfl, qz⟩ := z
  obtain rfl : v = Value.bool k' := rz
  refine ⟨k', rfl, ?_⟩
  exact wpAny_pure ⟨_, rfl, .bl !k', H', I', rfl, qz⟩
end
end ML

set_option maxHeartbeats 4000000
/-! == and != by an own __eq__, as computations -/
namespace ML
open PySem L2
def oOwnEq (c : Nat) (nf : Nat → Bool) (mf : MF) : O2 := fun x y h => match x, y with
  | .ref i, .ref j => match h[i]?, h[j]? with
    | some (.ins c1 _), some (.ins c2 _) => if (decide (c1 = c) && nf c2) = true then noEx (mf [.ref i, .ref j] h) else none
    | _, _ => none
  | _, _ => none
def notW (w : U) (h : Hm) : Option (Rz U) := match w with
  | .bl k => some (.ok (.bl !k) h)
  | _ => none
def oOwnNe (c : Nat) (nf : Nat → Bool) (mf : MF) : O2 := fun x y h => match x, y with
  | .ref i, .ref j => match h[i]?, h[j]? with
    | some (.ins c1 _), some (.ins c2 _) => if (decide (c1 = c) && nf c2) = true then bnd (noEx (mf [.ref i, .ref j] h)) notW else none
    | _, _ => none
  | _, _ => none
section
variable {G : Gm} {c : Nat} {nf : Nat → Bool} {mf : MF}
theorem oOwnEq_ok (hn : ∀ d, nf d = true → PySem.W.notFirst G.K (G.ca c) (.ref (G.ca d)) = true) : OpC G (oOwnEq c nf mf) (rOwnI G.K (G.ca c) (spM G 2 mf)) := fun E μ h H wx wy x y Q rel rx ry p => by
  unfold oOwnEq at p
  split at p
  · rename_i i j
    split at p
    · rename_i c1 f1 c2 f2 e1 e2
      split at p
      · rename_i hc
        simp only [Bool.and_eq_true, decide_eq_true_eq] at hc
        obtain ⟨rfl, hc2⟩ := hc
        have rx' := rx
        have ry' := ry
        simp only [RU] at rx' ry'
        obtain ⟨_, rfl⟩ := rx'
        obtain ⟨_, rfl⟩ := ry'
        obtain ⟨dx, gs, ea, _⟩ := rel.cell i _ e1
        obtain ⟨dy, gs2, eb, _⟩ := rel.cell j _ e2
        exact ⟨_, dx, gs, _, _, dy, gs2, rfl, rfl, ea, eb, hn c2 hc2, μ, h, [.ref i, .ref j], rel, RUs.cons rx (RUs.cons ry RUs.nil), rfl, p.noEx⟩
      · exact False.elim p
    · exact False.elim p
  · exact False.elim p
theorem oOwnNe_ok (hn : ∀ d, nf d = true → PySem.W.notFirst G.K (G.ca c) (.ref (G.ca d)) = true) : OpC G (oOwnNe c nf mf) (rNeI G.K (G.ca c) (spM G 2 mf)) := fun E μ h H wx wy x y Q rel rx ry p => by
  unfold oOwnNe at p
  split at p
  · rename_i i j
    split at p
    · rename_i c1 f1 c2 f2 e1 e2
      split at p
      · rename_i hc
        simp only [Bool.and_eq_true, decide_eq_true_eq] at hc
        obtain ⟨rfl, hc2⟩ := hc
        have rx' := rx
        have ry' := ry
        simp only [RU] at rx' ry'
        obtain ⟨_, rfl⟩ := rx'
        obtain ⟨_, rfl⟩ := ry'
        obtain ⟨dx, gs, ea, _⟩ := rel.cell i _ e1
        obtain ⟨dy, gs2, eb, _⟩ := rel.cell j _ e2
        refine ⟨_, dx, gs, _, _, dy, gs2, rfl, rfl, ea, eb, hn c2 hc2, μ, h, [.ref i, .ref j], rel, RUs.cons rx (RUs.cons ry RUs.nil), rfl, ?_⟩
        refine ((Post.bnd p).noEx).mono fun μ' h' H' w g q v rv => ?_
        unfold notW at q
        split at q
        · rename_i k
          simp only [RU] at rv
          exact ⟨k, rv, Post.ok g.rel q _ rfl⟩
        · exact False.elim q
      · exact False.elim p
    · exact False.elim p
  · exact False.elim p
end
/-- an own class with an own __eq__ -/
structure OwnEq (P : Program) (w : World) (G : Gm) (mg : Str → Option Value) (base : Heap) (k c : Nat) (nf : Nat → Bool) (mf : MF) : Prop where
  ex : ∃ f fd ps, PySem.W.findIn G.K (.ref (G.ca c)) "__eq__" = some (some (.ref f)) ∧ PySem.W.isFn G.K (.ref f) = true ∧ Binds G.K fd ps [] ∧ ps.length = 2 ∧ FnM P w G mg base k f fd ps mf
  ne : PySem.W.findIn G.K (.ref (G.ca c)) "__ne__" = some (some (.builtin "object.__ne__"))
  obj : PySem.W.subIn G.K (.ref (G.ca c)) (.type "object") = some true
  nf : ∀ d, nf d = true → PySem.W.notFirst G.K (G.ca c) (.ref (G.ca d)) = true
section
variable {X : Cx} {G : Gm} {Wx : WX} {a b : Expr} {pos : Pos} {ma mb : ME} {k j c : Nat} {nf : Nat → Bool} {mf : MF}
theorem dEqO (hG : X.K = G.K) (oe : OwnEq X.prog X.w G X.mg X.base k c nf mf) (hr : Room j X.A) (hk : k + 2 ≤ j) (ha : PE X a (tE G Wx ma)) (hb : PE X b (tE G Wx mb)) : PE X (.Compare a [.Eq] [b] pos) (tE G Wx (mOp (oOwnEq c nf mf) ma mb)) := by
  obtain ⟨f, fd, ps, h1, h2, hbd, hl, F⟩ := oe.ex
  have hn := oe.nf
  unfold FnM at F
  rw [hl] at F
  obtain ⟨K, ca⟩ := G
  subst hG
  exact (pe_cmpR (op_ownI (fun _ _ => rfl) h1 h2 F (hr.mono (by omega)) hbd fun σ => fun _ _ _ _ _ I h => by
    obtain ⟨_, _, H', cls, d, _, _, _, _, _, _, _, z⟩ := h
    exact z.elim) ha hb (nomark _)).weak (w_op (oOwnEq_ok hn))
theorem dNeO (hG : X.K = G.K) (oe : OwnEq X.prog X.w G X.mg X.base k c nf mf) (hr : Room j X.A) (hk : k + 2 ≤ j) (ha : PE X a (tE G Wx ma)) (hb : PE X b (tE G Wx mb)) : PE X (.Compare a [.NotEq] [b] pos) (tE G Wx (mOp (oOwnNe c nf mf) ma mb)) := by
  obtain ⟨f, fd, ps, h1, h2, hbd, hl, F⟩ := oe.ex
  have hn := oe.nf
  have h3 := oe.ne
  have h4 := oe.obj
  unfold FnM at F
  rw [hl] at F
  obtain ⟨K, ca⟩ := G
  subst hG
  exact (pe_cmpR (op_neI h3 h1 h2 h4 F (hr.mono hk) hbd) ha hb (nomark _)).weak (w_op (oOwnNe_ok hn))
end
end ML

set_option maxHeartbeats 4000000
/-! try with several clauses, each with a name; what is caught is tracked -/
namespace ML
open PySem PySem.Spec PyProof.Rows L2
def wManyT (K : PySem.W.Frag) (Wout : WX) (D : Ends) : List (Value × Nat × TS) → WX
  | [] => Wout
  | (c, i, ts) :: l => fun cls d σ H => ∃ b, PySem.W.exmOne K cls c = some b ∧
    (b = true → ∀ a, H a = none → ts { nx := fun σ' H' => D.nx (σ'.set i none) H', rt := D.rt, bk := fun σ' H' => D.bk (σ'.set i none) H', ct := fun σ' H' => D.ct (σ'.set i none) H' } (σ.set i (some (.ref a))) (upd H a (ExV cls d a))) ∧
    (b = false → wManyT K Wout D l cls d σ H)
inductive HdT (X : Cx) : List ExceptHandler → List (Value × Nat × TS) → Prop where
  | nil : HdT X [] []
  | cons {x n : Str} {c : Value} {i : Nat} {suite : List Stmt} {b₀ : Stmt} {np pos' : Pos} {hds : List ExceptHandler} {l : List (Value × Nat × TS)} {ts : TS} (hc : Names X x c) (hi : X.N[i]? = some n) (hln : X.env.kindOf n = some .local)
      (hsu : ∀ (a : Addr) (pn : List (Addr × Obj)), PSs (X.suite a pn) (b₀ :: suite) ts) (r : HdT X hds l) : HdT X (.ExceptHandler (some (.Name x np)) (some n) (b₀ :: suite) pos' :: hds) ((c, i, ts) :: l)
section
variable {X : Cx} {body : List Stmt} {pos : Pos} {tb : WX → TS} {Wout : WX} {hds : List ExceptHandler} {l : List (Value × Nat × TS)}
theorem ps_try_manyT {h₀ : ExceptHandler} (hs : X.stack = X.env :: X.outer) (hf : X.env.frame = some X.env.locals) (hex : X.ex = []) (hN : X.N.Nodup) (tk : Takes X Wout)
    (hb : ∀ (W : WX) (pn : List (Addr × Obj)) (xe : Value → Shared → Prop), Takes (X.tr pn xe) W → PassesOwn (model X.prog X.w) X.A X.env xe → PSs (X.tr pn xe) body (tb W)) (hh : HdT X (h₀ :: hds) l) :
    PS X (.Try body (h₀ :: hds) [] [] pos) (fun D σ H => tb (wManyT X.K Wout D l) D σ H) := by
  refine ⟨fun pins s σ H D I h => ?_⟩
  have ok := I.ok
  have hfr : X.A.frames = some (X.env :: X.outer) := by rw [ok.frames, hs]
  refine wpAny_Try_except ?_
  refine wpAny_mono ((hb (wManyT X.K Wout D l) (X.pn ++ pins) (fun e s₁ => wpAny (model X.prog X.w) X.A (noteFrame e X.env) (fun _ s₂ => wpAny (model X.prog X.w) X.A (setFlight e none) (fun _ s₃ =>
    wpAny (model X.prog X.w) X.A (handleBy e X.env (h₀ :: hds)) (SP X pins D) X.xe s₃) X.xe s₂) X.xe s₁) (fun u s' xx => ?_) PassesOwn.looking).run [] s σ H D (I.toTry _) h) (fun f s1 hsp => ?_) (fun e s1 he => he)
  · obtain ⟨a, B, sI, pins', σ', H', cls, d, rfl, J', nb, up, sky, na, os, ag, wish⟩ := xx
    have J : Inv X pins σ' H' sI := J'.ofTry ok
    have sky' : Sky B (X.env :: X.outer) a (Zc cls d) X.env.locals s'.heap := by rw [← hs]; exact sky
    show wpAny (model X.prog X.w) X.A (noteFrame (.ref a) X.env) _ _ _
    refine Sky.land Zc.steady hfr hf sky' fun h3 fl3 up3 => ?_
    have J3 : Inv X pins σ' H' { s' with heap := h3 } := J.landed nb fl3.1 (up.trans up3) os ag
    obtain ⟨oe3, vs3, he3, hz3, hd3⟩ := fl3.there
    have notFr : ∀ {h : Heap} {o : Obj} {vs : Array Value}, h.FunFrames B (X.env :: X.outer) → h.get? a = some o → o.data = .fields vs → a ∉ frs (X.env :: X.outer) := fun {h o vs} ff e dd hm => by
      obtain ⟨_, o', e', hnf⟩ := ff.mem hm
      rw [e] at e'; cases e'
      exact hnf _ dd
    have nfr := notFr fl3.2.2.1 he3 hd3
    have nL : a ≠ X.env.locals := fun z => nfr (List.mem_filterMap.mpr ⟨X.env, List.mem_cons_self, by rw [hf, z]⟩)
    have nF : a ∉ X.fs := fun hm => by
      obtain ⟨e, he, q⟩ := List.mem_filterMap.mp hm
      exact nfr (List.mem_filterMap.mpr ⟨e, List.mem_cons_of_mem _ he, q⟩)
    -- it is none of what stood before it was made
    have nI : sI.heap.get? a = none := by
      cases q : sI.heap.get? a with
      | none => rfl
      | some o =>
        have z := nb a o q (by rw [hs]; exact nfr)
        rw [fl3.2.1] at z
        cases z
    have n0 : X.s_0.heap.get? a = none := by
      cases q : X.s_0.heap.get? a with
      | none => rfl
      | some o =>
        obtain ⟨o', z⟩ := J.base.there a o q (by rw [hex]; exact fun z => nomatch z)
        rw [nI] at z
        cases z
    have nP : ∀ p ∈ X.pn ++ pins, p.1 ≠ a := fun p hp z => by
      have q := (J.pin p hp).1
      rw [z, nI] at q
      cases q
    have nC : ∀ x c, X.env.cells.lookup x = some c → c ≠ a := fun x c e z => by
      obtain ⟨v, o, q, _⟩ := J.cell x c e
      rw [z, nI] at q
      cases q
    have key : ∀ {hds : List ExceptHandler} {l : List (Value × Nat × TS)}, HdT X hds l → wManyT X.K Wout D l cls d σ' H' → wpAny (model X.prog X.w) X.A (handleBy (.ref a) X.env hds) (SP X pins D) X.xe { s' with heap := h3 } := by
      intro hds l hh
      induction hh with
      | nil =>
        intro wish
        refine wpAny_handleBy_nil ?_
        obtain ⟨k1, k2, k3, oe, vs, T, oT, ts', he, hz, hd, h1, hr⟩ := id fl3
        unfold PySem.passOn
        refine wpAny_bind (wpAny_field he hd h1 ?_)
        rw [if_neg (show ¬ ((Value.ref T == Value.none) = true) from by simp)]
        have fin : wpAny (model X.prog X.w) X.A (setFlight (.ref a) X.env.frame) (fun _ s4 => wpAny (model X.prog X.w) X.A (throw (.ref a) : Sem Flow) (SP X pins D) X.xe s4) X.xe { s' with heap := h3 } := by
          rw [hf]
          refine HandSPX.setFlight_upZ fl3 fun h4 hh4 up4 => wpAny_throw (tk _ _ ?_)
          exact ⟨a, B, sI, pins, σ', H', cls, d, rfl, J, nb, (up.trans up3).trans up4, .inr (.inr (by rw [hs]; exact hh4)), na, os, ag, wish⟩
        first
          | exact wpAny_bind (wpAny_pure (wpAny_bind fin))
          | exact wpAny_bind fin
      | cons hc hi hln hsu _ ih =>
        rename_i x n c i suite b₀ np pos' hds l ts _r
        intro wish
        obtain ⟨b, hb1, hyes, hno⟩ := wish
        have hloc : Loc X.env.scope n := .inl hln
        refine wpAny_handleBy_cons (codeAny_handlers_test ?_) (by intro q; cases q)
        have LT : PySem.W.Looks (model X.prog X.w) h3 (typeOf (.ref a)) cls := fun A Q E s k q => wpAny_typeOf_ref (k _ _ he3) (by rw [hz3.1]; exact q)
        have LM := PySem.W.exm_one (M := model X.prog X.w) (J3.kIn) LT hb1
        have S3 := J3.suite he3 hd3 na nL nF
        have test : ∀ {Q : Value → Shared → Prop} {E : Value → Shared → Prop}, Q c { s' with heap := h3 } → wpAny (model X.prog X.w) (X.A.mark (some (.ref a))) (eval (.Name x np) X.env) Q E { s' with heap := h3 } := fun {Q E} q => by
          obtain ⟨hg, hdbg, hm | ⟨hm, hv, hnn⟩⟩ := hc
          · exact ld_glob (X := X.suite a ((a, oe3) :: (X.pn ++ pins))) S3 hg hm q hdbg
          · exact ld_blt (X := X.suite a ((a, oe3) :: (X.pn ++ pins))) S3 hg hm hv q hnn hdbg
        refine test (LM.here ?_)
        cases b with
        | true =>
          refine codeAny_handlers_suite_as ?_
          refine HandSPX.lands_againZ fl3 fun h4 fl4 up4 => ?_
          have J4 : Inv X pins σ' H' { s' with heap := h4 } := J.landed nb fl4.1 ((up.trans up3).trans up4) os ag
          obtain ⟨oe4, vs4, he4, hz4, hd4⟩ := fl4.there
          have J5 := Inv.track (o := ExV cls d a) J4 na n0 nP nL nC (exv_ok he4 hz4 hd4)
          have S4 := Inv.suiteT J5 a
          refine store_ok (X := X.suite a (X.pn ++ pins)) (v := .ref a) S4 hN hi hloc rfl (fun s5 S5 => ?_) (.inr hln)
          refine wpAny_mono ((hsu a (X.pn ++ pins)).run [] s5 _ (upd H' a (ExV cls d a)) _ S5 (hyes rfl a na)) (fun f s6 hsp => ?_) (fun _ _ z => False.elim z)
          have end_ : ∀ {σ6 : L2.St} {H6 : Hp} {Q : Shared → Prop}, Inv (X.suite a (X.pn ++ pins)) [] σ6 H6 s6 → (∀ s7, Inv X pins (σ6.set i none) H6 s7 → Q s7) →
              wpAny (model X.prog X.w) X.A (do bindName X.env n .none; unbindBehindTheSuite X.env n pos') (fun _ s7 => Q s7) X.xe s6 := fun {σ6 H6 Q} S6 hq => gone_ok (Inv.unsuiteT S6 ok) hN hi hln hq
          cases f with
          | next =>
            obtain ⟨σ6, H6, S6, q6⟩ := hsp
            exact end_ S6 fun s7 J7 => ⟨_, _, J7, q6⟩
          | brk =>
            obtain ⟨σ6, H6, S6, q6⟩ := hsp
            exact end_ S6 fun s7 J7 => ⟨_, _, J7, q6⟩
          | cont =>
            obtain ⟨σ6, H6, S6, q6⟩ := hsp
            exact end_ S6 fun s7 J7 => ⟨_, _, J7, q6⟩
          | ret u =>
            obtain ⟨v6, σ6, H6, S6, r6, q6⟩ := hsp
            exact end_ S6 fun s7 J7 => ⟨_, _, _, J7, r6, q6⟩
        | false => exact ih (hno rfl)
    exact key hh wish
  · cases f with
    | next =>
      obtain ⟨σ', H', J', q⟩ := hsp
      exact wpAny_execs_nil ⟨σ', H', J'.ofTry ok, q⟩
    | brk =>
      obtain ⟨σ', H', J', q⟩ := hsp
      exact ⟨σ', H', J'.ofTry ok, q⟩
    | cont =>
      obtain ⟨σ', H', J', q⟩ := hsp
      exact ⟨σ', H', J'.ofTry ok, q⟩
    | ret u =>
      obtain ⟨v, σ', H', J', r, q⟩ := hsp
      exact ⟨v, σ', H', J'.ofTry ok, r, q⟩
end

end ML

set_option maxHeartbeats 4000000
/-! several clauses as a computation -/
namespace ML
open PySem L2
structure Row where
  tab : Nat → Option Bool
  i : Nat
  suite : MS
def catchN : List Row → Nat → List (Str × U) → Ev → Hm → Option Sz
  | [], c, fs, ρ, h => some (.ex c fs ρ h)
  | r :: l, c, fs, ρ, h => match r.tab c with
    | some true => match r.suite (ρ.set r.i (some (.ref h.length))) (h ++ [.exc c fs]) with
      | some (.ex _ _ _ _) => none
      | q => tryEnd r.i q
    | some false => catchN l c fs ρ h
    | none => none
def mTryN (l : List Row) (body : MS) : MS := fun ρ h => match body ρ h with
  | some (.ex c fs ρ1 h1) => catchN l c fs ρ1 h1
  | r => r
section
variable {G : Gm} {Wx : WX} {μ : Nat → Addr} {h : Hm} {H : Hp} {ρ : Ev} {σ : L2.St} {D : Ends}
/-- the clauses of the one and of the other -/
inductive RowsOk (G : Gm) : List Row → List (Value × Nat × TS) → Prop where
  | nil : RowsOk G [] []
  | cons {tab : Nat → Option Bool} {i : Nat} {suite : MS} {cv : Value} {l : List Row} {m : List (Value × Nat × TS)} (t : TakC G tab cv) (q : RowsOk G l m) : RowsOk G (⟨tab, i, suite⟩ :: l) ((cv, i, tS G (fun _ _ _ _ => False) suite) :: m)
theorem catch_ok {l : List Row} {m : List (Value × Nat × TS)} (q : RowsOk G l m) : ∀ {μ1 : Nat → Addr} {ρ1 : Ev} {h1 : Hm} {σ1 : L2.St} {H1 : Hp} {k : Nat} {fs : List (Str × U)} {cls : Value} {d : Option Addr}, StOk G μ1 ρ1 h1 σ1 H1 → RX G.K μ1 h1.length H1 G.ca k fs cls d →
    PostS G Wx D μ1 h1 H1 (catchN l k fs ρ1 h1) → wManyT G.K Wx D m cls d σ1 H1 := by
  induction q with
  | nil =>
    intro μ1 ρ1 h1 σ1 H1 k fs cls d s1 rx p
    exact p μ1 σ1 H1 cls d (Gr.refl s1.rel) s1 rx
  | cons t _ ih =>
    rename_i tab i suite cv l m _
    intro μ1 ρ1 h1 σ1 H1 k fs cls d s1 rx p
    unfold catchN at p
    obtain ⟨ecl, rx2⟩ := id rx
    cases et : tab k with
    | none => simp only [et] at p; exact False.elim p
    | some b =>
      simp only [et] at p
      refine ⟨b, by rw [ecl]; exact t k b et, fun hb a na => ?_, fun hb => ?_⟩
      · subst hb
        simp only at p
        have hn : RCell G (nu μ1 h1.length a) (h1.length + 1) (upd H1 a (ExV cls d a)) a (.exc k fs) := by
          refine ⟨cls, d, upd_same, ecl, ?_⟩
          rcases rx2 with z | ⟨dd, gs, e1, e2, z⟩
          · exact .inl z
          · exact .inr ⟨dd, gs, e1, by rw [upd_ne (ne_of_none e2 na)]; exact e2, RFs.mono (fun i hi => nu_old hi) (Nat.le_succ _) (TS0.fresh na) _ _ z⟩
        have g2 := Gr.new (o := ExV cls d a) (c := .exc k fs) s1.rel na hn
        have s2 := (s1.on g2).set (w := .ref h1.length) (v := .ref a) i (by simp only [RU]; exact ⟨by simp, by rw [nu_new]⟩)
        refine ⟨_, _, _, s2, ?_⟩
        cases e3 : suite (ρ1.set i (some (.ref h1.length))) (h1 ++ [.exc k fs]) with
        | none => rw [e3] at p; exact False.elim p
        | some r3 =>
          rw [e3] at p
          cases r3 with
          | nx ρ3 h3 => exact fun μ4 σ4 H4 g4 s4 => p μ4 _ H4 (g2.trans g4) (s4.unset i)
          | bk ρ3 h3 => exact fun μ4 σ4 H4 g4 s4 => p μ4 _ H4 (g2.trans g4) (s4.unset i)
          | ct ρ3 h3 => exact fun μ4 σ4 H4 g4 s4 => p μ4 _ H4 (g2.trans g4) (s4.unset i)
          | rt w h3 => exact fun μ4 H4 v g4 r4 => p μ4 H4 v (g2.trans g4) r4
          | ex k3 fs3 ρ3 h3 => exact False.elim p
      · subst hb
        exact ih s1 rx p
theorem w_tryN {l : List Row} {m : List (Value × Nat × TS)} {body : MS} (q : RowsOk G l m) : ∀ D σ H, tS G Wx (mTryN l body) D σ H → tS G (wManyT G.K Wx D m) body D σ H := fun D σ H ⟨μ, ρ, h, s, p⟩ => by
  refine ⟨μ, ρ, h, s, ?_⟩
  unfold mTryN at p
  cases e : body ρ h with
  | none => rw [e] at p; exact p
  | some r =>
    rw [e] at p
    cases r with
    | nx ρ1 h1 => exact p
    | rt w h1 => exact p
    | bk ρ1 h1 => exact p
    | ct ρ1 h1 => exact p
    | ex k fs ρ1 h1 =>
      intro μ1 σ1 H1 cls d g1 s1 rx
      exact catch_ok q s1 rx (PostS.on p g1)
end
section
variable {X : Cx} {G : Gm} {Wx : WX} {body : List Stmt} {pos : Pos} {h₀ : ExceptHandler} {hds : List ExceptHandler} {l : List Row} {m : List (Value × Nat × TS)} {mb : MS}
theorem dTryN (hG : X.K = G.K) (q : RowsOk G l m) (hs : X.stack = X.env :: X.outer) (hf : X.env.frame = some X.env.locals) (hex : X.ex = []) (hN : X.N.Nodup) (tk : Takes X Wx)
    (hb : ∀ (W : WX) (pn : List (Addr × Obj)) (xe : Value → Shared → Prop), Takes (X.tr pn xe) W → PassesOwn (model X.prog X.w) X.A X.env xe → PSs (X.tr pn xe) body (tS G W mb)) (hh : HdT X (h₀ :: hds) m) :
    PS X (.Try body (h₀ :: hds) [] [] pos) (tS G Wx (mTryN l mb)) := by
  have r := ps_try_manyT (pos := pos) (Wout := Wx) (tb := fun W => tS G W mb) hs hf hex hN tk hb hh
  rw [hG] at r
  exact r.weak (w_tryN q)
end
/-- isinstance(x, C) of instances of C -/
def tabI (c : Nat) : TyK → Option Bool
  | .ins k => if k = c then some true else none
  | _ => none
theorem tabI_some {c : Nat} {k : TyK} {b : Bool} (h : tabI c k = some b) : k = .ins c ∧ b = true := by
  unfold tabI at h
  split at h
  · split at h
    · rename_i e
      subst e
      exact ⟨rfl, (Option.some.inj h).symm⟩
    · exact absurd h (by simp)
  · exact absurd h (by simp)
theorem isi_ins {G : Gm} {c : Nat} {v : V} {u : Value} (cl : ClsV v u) (hk : PySem.W.kitOne G.K (.ref (G.ca c)) u = some true) (hi : InsK G.K (G.ca c)) : IsiC G (tabI c) v u := ⟨cl, (fun k b h => by
  obtain ⟨rfl, rfl⟩ := tabI_some h
  exact hk), (fun j b h => by
  obtain ⟨e, _⟩ := tabI_some h
  cases e
  exact hi), (fun j b h => by
  obtain ⟨e, _⟩ := tabI_some h
  cases e)⟩
theorem atI1 {G : Gm} {f : Str} {a : Nat} (h : Cls G.K (G.ca a) ∧ NoAttr G.K (G.ca a) f) : AtC G f (fun c => decide (c = a)) := fun c hc => by rw [of_decide_eq_true hc]; exact h
theorem atXI {G : Gm} {f : Str} {i e : Nat → Bool} (h : AtC G f i) (q : AtX G f (fun _ => false) e) : AtX G f i e := ⟨h, q.exc⟩
theorem kit_self {K : PySem.W.Frag} {C : Addr} : PySem.W.kitOne K (.ref C) (.ref C) = some true := by
  unfold PySem.W.kitOne
  rw [if_pos (by simp)]
theorem nf_self {K : PySem.W.Frag} {C : Addr} : PySem.W.notFirst K C (.ref C) = true := by
  unfold PySem.W.notFirst
  simp
end ML

set_option maxHeartbeats 4000000
/-! enumerate of a tuple -/
namespace ML
open PySem PySem.Spec PyProof.Rows L2
open Builtin
set_option maxHeartbeats 4000000 in
theorem meets_enum1 {v : Value} {o : Obj} {H : Heap → Prop} (B : Begins v o H) :
    Meets (Builtin.«enumerate.__new__» ⟨[.type "enumerate", v], []⟩) (fun _ R s => H s.heap ∧
      R (.ok (.ret (.ref (s.heap.push o).objs.size))) { s with heap := (s.heap.push o).push { cls := .type "enumerate", data := .fields #[.none, .bool false, .ref s.heap.objs.size, rawInt 0, .none, .none] } }) :=
  .of_wp fun prog w A R s h => by
    obtain ⟨hp, g, d, tk, os⟩ := s; obtain ⟨h1, h⟩ := h
    have hsub := sub_enumerate
    have q1 : ∀ {A' : Around} {E : Value → Shared → Prop} {Q : Value → Shared → Prop}, Q (.ref hp.objs.size) ⟨hp.push o, g, d, tk, os⟩ → wpAny (model prog w) A' (pyIter v) Q E ⟨hp, g, d, tk, os⟩ :=
      fun q => B.iter prog w _ _ ⟨hp, g, d, tk, os⟩ _ h1 q
    wp_walk using q1
    refine wpAny_stack_any fun st => wpAny_pure ?_
    split
    · rename_i c _ _ _ _ _
      cases (c == Value.type "enumerate")
      · wp_walk using q1
        exact ⟨_, rfl, h⟩
      · wp_walk using q1
        exact ⟨_, rfl, h⟩
    · wp_walk using q1
      exact ⟨_, rfl, h⟩
section
variable {prog : Program} {w : World} {A : Around} {E : Value → Shared → Prop} {s : Shared}
theorem enum1_begins {v : Value} {o : Obj} {H : Heap → Prop} {Q : Value → Shared → Prop} (B : Begins v o H) (h1 : H s.heap)
    (h : ∀ h', IsEnum h' (s.heap.objs.size + 1) s.heap.objs.size 0 .none → h'.get? s.heap.objs.size = some o → h'.objs.size = s.heap.objs.size + 2 →
      (∀ b o, s.heap.get? b = some o → h'.get? b = some o) → Q (.ref (s.heap.objs.size + 1)) { s with heap := h' }) :
    wpAny (model prog w) A (call (.type "enumerate") [v]) Q E s := by
  refine callType_new F.called_enumerate (by decide) (F.typeCall_enumerate_1 _) (F.newCall_enumerate_1 _) (fun obj => F.args_object_init_2 obj _) F.entry_enumerate_new
    (meets_enum1 B) ⟨h1, ?_⟩
  have hz : (s.heap.push o).objs.size = s.heap.objs.size + 1 := Heap.size_push ..
  show _ ∧ _
  rw [hz]
  have he : IsEnum ((s.heap.push o).push { cls := .type "enumerate", data := .fields #[.none, .bool false, .ref s.heap.objs.size, rawInt 0, .none, .none] }) (s.heap.objs.size + 1) s.heap.objs.size 0 .none := by
    have := Heap.get?_push_size (s.heap.push o) (o := { cls := .type "enumerate", data := .fields #[.none, .bool false, .ref s.heap.objs.size, rawInt 0, .none, .none] }) rfl
    rw [hz] at this; exact this
  refine ⟨⟨_, he, rfl⟩, h _ he (Heap.get?_push_of_some _ (Heap.get?_push_size _ B.free)) (by rw [Heap.size_push, hz]) fun b o x => Heap.get?_push_of_some _ (Heap.get?_push_of_some _ x)⟩
end
/-- the tuple at a, each item in a new pair -/
def IteT (K : PySem.W.Frag) (a : Addr) : It :=
  ⟨fun i H => ∃ (xs : List V) (x : V), SqT K H a xs ∧ xs[i]? = some x, fun i H v H' => ∃ T x, v = .ref T ∧ H T = none ∧ H' = upd H T (.tup [.int (i : Nat), x]) ∧ ∀ xs, SqT K H a xs → xs[i]? = some x, fun i H => ∃ xs : List V, SqT K H a xs ∧ xs.length ≤ i⟩
theorem turn_enumT {P : Program} {w : World} {K : PySem.W.Frag} {elts : List Expr} {kk : Nat} {tpos : Pos} (a e it : Addr) :
    Turn P w K (.Tuple elts kk tpos) (IteT K a) [e, it] e (fun i h => (∃ old, IsEnum h e it ((i : Nat) : Int) old) ∧ h.IsTupleIter it a i ∧ e ≠ it) where
  mem := by simp
  obj := fun i h st b hb => by
    obtain ⟨⟨old, he⟩, ⟨o, ho, hc, hd⟩, _⟩ := st
    have e' : b = e ∨ b = it := by simpa using hb
    rcases e' with z | z
    · rw [z]; exact ⟨_, he, fun v q => nomatch q⟩
    · rw [z]; exact ⟨o, ho, fun v q => by rw [hd] at q; cases q⟩
  keep := fun i h h' st k => let ⟨⟨old, he⟩, hi, hne⟩ := st; ⟨⟨old, k e (by simp) _ he⟩, hi.at fun o q => k it (by simp) o q, hne⟩
  item := by
    intro X hP hw hK hc i pins s σ H E I hf st hg
    subst hP hw hK
    obtain ⟨⟨old, he⟩, hit, hne⟩ := st
    obtain ⟨xs, x, hq, hx⟩ := hg
    obtain ⟨its, rv, p, hz⟩ := I.tuple hq
    have p' : s.heap.IsTuple a its.toArray := p
    obtain ⟨u, hu, ru⟩ := rv.get hx
    have hel : e < s.heap.objs.size := Heap.lt_size he
    have hil : it < s.heap.objs.size := by obtain ⟨_, q, _⟩ := hit; exact Heap.lt_size q
    have hl := rv.length
    have hlt : i < its.toArray.size := by
      have := (List.getElem?_eq_some_iff.mp hu).1
      simpa using this
    have hai : a ≠ it := by
      rintro rfl
      obtain ⟨o1, g1, c1, _⟩ := p'
      obtain ⟨o2, g2, c2, _⟩ := hit
      rw [g1] at g2; injection g2 with g2; subst g2; rw [c1] at c2; injection c2 with c2; exact absurd c2 (by decide)
    have hea : e ≠ a := by
      rintro rfl
      obtain ⟨o1, g1, c1, _⟩ := p'
      have g2 := he
      unfold IsEnum at g2
      rw [g1] at g2; injection g2 with g2; rw [g2] at c1; injection c1 with c1; exact absurd c1 (by decide)
    have D := Draws.tuple (prog := X.prog) (w := X.w) (A := X.A.in1) (show X.A.in1.handled = none from I.ok.hd hc) it a hai its.toArray
    refine wpAny_pyNext_enum_itemD D he ⟨hit, p'⟩ hlt hne (by simp [hne, hea]) fun x2 h' tk hP ho hst' hT hsz hk => ?_
    have ex2 : x2 = u := by
      have : its.toArray[i]? = some x2 := hP
      rw [List.getElem?_toArray, hu] at this
      cases this; rfl
    subst ex2
    refine ⟨_, rfl, wpAny_letOwnedTupleGo_enum (s := { s with heap := h', toks := tk + 1 }) ho fun h'' he' sb => ?_⟩
    have hT2 : h''.get? s.heap.objs.size = some { cls := .type "tuple", data := .seq #[.int i tk, x2] } := (sb.2 _ (Nat.ne_of_gt hel)).trans hT
    have new : ObjOk X.prog X.w (upd H s.heap.objs.size (.tup [.int (i : Nat), x])) h'' s.heap.objs.size (.tup [.int (i : Nat), x]) :=
      ⟨by show 2 ≤ sizeLine; decide, [.int i tk, x2], .cons ⟨_, rfl⟩ (.cons ru .nil), ⟨_, hT2, rfl, _, rfl⟩⟩
    have I1 : Inv X pins σ (upd H s.heap.objs.size (.tup [.int (i : Nat), x])) { s with heap := h'', toks := tk + 1 } :=
      I.turnedNew (ch := [e, it]) (fun b ob hb q => (sb.2 b (fun z => hb (by simp [z]))).trans (hk b ob (fun z => hb (by simp [z])) (fun z => hb (by simp [z])) q)) hf (Nat.le_refl _) new
    refine ⟨.ref s.heap.objs.size, _, I1, rfl, ⟨_, x, rfl, I.hok.fresh (Nat.le_refl _), rfl, fun ys hy => by rw [I.tuple_inj hy hq]; exact hx⟩, ⟨⟨x2, ?_⟩, hst'.1.at fun o q => (sb.2 it (Ne.symm hne)).trans q, hne⟩, fun b hb => ?_⟩
    · have e1 : ((i + 1 : Nat) : Int) = (i : Int) + 1 := by omega
      rw [e1]; exact he'
    · have hb' : b < s.heap.objs.size := by
        have e' : b = e ∨ b = it := by simpa using hb
        rcases e' with z | z
        · rw [z]; exact hel
        · rw [z]; exact hil
      rw [upd_ne (Nat.ne_of_lt hb')]
      exact (hf b hb).1
  done := by
    intro X hP hw hK hc i pins s σ H E I hf st hg
    subst hP hw hK
    obtain ⟨⟨old, he⟩, hit, hne⟩ := st
    obtain ⟨xs, hq, hx⟩ := hg
    obtain ⟨its, rv, p, hz⟩ := I.tuple hq
    have p' : s.heap.IsTuple a its.toArray := p
    obtain ⟨f0, f1, f2, f3, f4, f5⟩ := hf it (by simp)
    have hl := rv.length
    have D : ∀ (s' : Shared) (Q : Value → Shared → Prop) (E : Value → Shared → Prop), s'.heap.IsTupleIter it a i → s'.heap.IsTuple a its.toArray →
        (∀ h' e, Heap.ExtBut it s'.heap h' → (∃ o, h'.get? e = some o ∧ o.cls = .type "StopIteration") → E (.ref e) { s' with heap := h' }) → wpAny (model X.prog X.w) X.A.in1 (Builtin.SmallTypes.nextOf (.ref it)) Q E s' := fun s' Q E h1 h2 h3 =>
      wpAny_nextOf_tuple_end (show X.A.in1.handled = none from I.ok.hd hc) h1 h2 (by simp; omega) h3
    have hT : s.TypeIs (.ref e) "enumerate" := ⟨_, he, rfl⟩
    unfold pyNext
    refine wpAny_bind (wpAny_attempt (wpAny_callSpecial?_slot (name := Str.ofString "__next__") hT F.slot_enumerate_next
      (wpAny_call_entry F.slot_enumerate_next hT F.entry_enumerate_next ?_ (F.args_enumerate_next_1 _))))
    show wpAny _ _ (field (.ref e) 2 >>= _) _ _ _
    refine wpAny_bind (wpAny_field he rfl (x := .ref it) rfl ?_)
    refine wpAny_bind (D _ _ _ hit p' fun h' x he' hx' => ?_)
    obtain ⟨o, ho, hc'⟩ := hx'
    refine wpAny_bind (wpAny_isInstance (T := "StopIteration") (b := true) ⟨o, ho, hc'⟩ isSubtype_stop ?_)
    exact wpAny_pure ⟨rfl, I.turned (t' := s.toks) (fun b o hb q => he' b o hb q) f0 f1 f3 f4 f5⟩
  self := fun A i s Q E st h => let ⟨⟨_, he⟩, _⟩ := st; wpAny_pyIter_enum he h
def iEnumT (K : PySem.W.Frag) (ta : TA) : TI := fun σ H R => ta σ H fun vs H1 => ∃ a xs, vs = [.ref a] ∧ SqT K H1 a xs ∧ R (IteT K a) H1
theorem pi_enumT {X : Cx} {e : Expr} {ta : TA} {p pos tpos : Pos} {elts : List Expr} {kk : Nat} (hg : Gl X "enumerate") (hm : X.mg "enumerate" = none) (ha : PA X [e] ta) (hs : starEach [e] X.env = [(false, eval e X.env)] := by rfl) :
    PI X (.Tuple elts kk tpos) (.Call (.Name "enumerate" p) [e] [] pos) (iEnumT X.K ta) := by
  refine ⟨fun pins s σ H R I h => ?_⟩
  refine Call_ (ld_blt I hg hm boot_enumerate (PyProof.Rows.callWith_type1 (thn (ha.run pos pins s σ H _ I h) fun us s1 ⟨vs, H1, I1, r1, q1⟩ => ?_) hs rfl))
  obtain ⟨a, xs, ex, hq, q⟩ := q1
  subst ex
  cases r1 with
  | cons r rr =>
    cases rr
    cases r
    obtain ⟨its, rv, p', hz⟩ := I1.tuple hq
    have p'' : s1.heap.IsTuple a its.toArray := p'
    refine enum1_begins (begins_tuple a its.toArray) p'' fun h' he hit hsz hk => wpAny_pyIter_enum he ?_
    have I2 : Inv X pins σ H1 { s1 with heap := h' } := I1.kept (t' := s1.toks) hk
    refine ⟨s1.heap.objs.size + 1, [s1.heap.objs.size + 1, s1.heap.objs.size], _, _, H1, rfl, I2, turn_enumT a (s1.heap.objs.size + 1) s1.heap.objs.size, ⟨⟨.none, he⟩, ⟨_, hit, rfl, rfl⟩, Nat.succ_ne_self _⟩, fun b hb => ?_, q⟩
    have e' : b = s1.heap.objs.size + 1 ∨ b = s1.heap.objs.size := by simpa using hb
    have hle : s1.heap.objs.size ≤ b := by
      rcases e' with z | z
      · rw [z]; exact Nat.le_add_right _ _
      · rw [z]; exact Nat.le_refl _
    exact I1.fpOk hle (I1.hok.fresh hle)

section
variable {G : Gm} {Wx : WX} {μ μ' : Nat → Addr} {h h' : Hm} {H H' : Hp} {ρ : Ev} {σ : L2.St}
theorem gives_enum {i : Nat} {ws : List U} {c : Cell} (hc : c = .lst ws ∨ c = .frz ws) (hi : i < h.length) : Gives G (Ite G.K (μ i)) (eItems 0 ws) (fun h => h[i]? = some c) μ h H := by
  intro j μ2 h2 H2 gr ck
  have em : μ2 i = μ i := gr.mu i hi
  have e2 : h2[i]? = some (.lst ws) ∨ h2[i]? = some (.frz ws) := by
    rcases hc with rfl | rfl
    · exact .inl ck
    · exact .inr ck
  obtain ⟨xs, sq, rs⟩ := rz_sqL gr.rel e2
  rw [em] at sq
  refine ⟨fun hj => ⟨xs, sq, by rw [RUs.length rs]; rw [eItems_len] at hj; exact hj⟩, fun w hw => ?_⟩
  rw [eItems_get] at hw
  cases ew : ws[j]? with
  | none => rw [ew] at hw; cases hw
  | some w0 =>
    rw [ew] at hw
    simp only [Option.map_some, Option.some.injEq, Nat.zero_add] at hw
    subst hw
    obtain ⟨v, ev, rv⟩ := RUs.get rs ew
    refine ⟨⟨xs, v, sq, ev⟩, fun x H' y => ?_⟩
    obtain ⟨T, x0, rfl, nT, rfl, hx⟩ := y
    have := hx xs sq
    rw [ev] at this
    cases this
    have g := Gr.fresh (o := .tup [.int (j : Nat), v]) gr.rel nT
    exact ⟨g, ru_tup (.inl (.inl upd_same)) (RUs.cons (by simp only [RU]) (RUs.cons (g.ru rv) RUs.nil))⟩
theorem gives_enumT {a : Addr} {xs : List V} {ws : List U} (st : SqT G.K H a xs) (rs : RUs G.K μ h.length H ws xs) : Gives G (IteT G.K a) (eItems 0 ws) (fun _ => True) μ h H := by
  intro j μ2 h2 H2 gr ck
  have sq := gr.tup a xs st
  have rs := gr.rus rs
  refine ⟨fun hj => ⟨xs, sq, by rw [RUs.length rs]; rw [eItems_len] at hj; exact hj⟩, fun w hw => ?_⟩
  rw [eItems_get] at hw
  cases ew : ws[j]? with
  | none => rw [ew] at hw; cases hw
  | some w0 =>
    rw [ew] at hw
    simp only [Option.map_some, Option.some.injEq, Nat.zero_add] at hw
    subst hw
    obtain ⟨v, ev, rv⟩ := RUs.get rs ew
    refine ⟨⟨xs, v, sq, ev⟩, fun x H' y => ?_⟩
    obtain ⟨T, x0, rfl, nT, rfl, hx⟩ := y
    have := hx xs sq
    rw [ev] at this
    cases this
    have g := Gr.fresh (o := .tup [.int (j : Nat), v]) gr.rel nT
    exact ⟨g, ru_tup (.inl (.inl upd_same)) (RUs.cons (by simp only [RU]) (RUs.cons (g.ru rv) RUs.nil))⟩
theorem w_iEn {e : ME} : ∀ σ H R, tI G Wx (iEn e) σ H R → iEnum G.K (tCons (tE G Wx e) tNil) σ H R := fun σ H R ⟨μ, ρ, h, s, p⟩ =>
  ⟨μ, ρ, h, s, (Post.bnd p).mono fun μ1 h1 H1 w g q v r => by
    cases w with
    | ref i =>
      simp only at q
      simp only [RU] at r
      obtain ⟨hi, rfl⟩ := r
      cases ec : h1[i]? with
      | none => rw [ec] at q; exact False.elim q
      | some c =>
        rw [ec] at q
        cases c with
        | lst ws =>
          obtain ⟨xs, sq, rs⟩ := rz_sqL g.rel (.inl ec)
          exact ⟨μ1 i, xs, rfl, sq, q μ1 H1 (Gr.refl g.rel) _ (gives_enum (.inl rfl) hi)⟩
        | frz ws =>
          obtain ⟨xs, sq, rs⟩ := rz_sqL g.rel (.inr ec)
          exact ⟨μ1 i, xs, rfl, sq, q μ1 H1 (Gr.refl g.rel) _ (gives_enum (.inr rfl) hi)⟩
        | ins _ _ => exact False.elim q
        | exc _ _ => exact False.elim q
    | _ => exact False.elim q⟩
def iEnT (e : ME) : MI := fun ρ h => bnd (e ρ h) fun w h1 => match w with
  | .tup ws => some (.ok (eItems 0 ws, fun _ => True) h1)
  | _ => none
theorem w_iEnT {e : ME} : ∀ σ H R, tI G Wx (iEnT e) σ H R → iEnumT G.K (tCons (tE G Wx e) tNil) σ H R := fun σ H R ⟨μ, ρ, h, s, p⟩ =>
  ⟨μ, ρ, h, s, (Post.bnd p).mono fun μ1 h1 H1 w g q v r => by
    cases w with
    | tup ws =>
      simp only at q
      simp only [RU] at r
      obtain ⟨a, xs, rfl, st, rs⟩ := r
      exact ⟨a, xs, rfl, st, q μ1 H1 (Gr.refl g.rel) _ (gives_enumT st rs)⟩
    | _ => exact False.elim q⟩
/-- enumerate of a list or a tuple -/
def iEnA (e : ME) : MI := fun ρ h => match e ρ h with
  | some (.ok (.tup _) _) => iEnT e ρ h
  | _ => iEn e ρ h
end
section
variable {X : Cx} {G : Gm} {Wx : WX} {e : Expr} {ma : ME} {p pos tpos : Pos} {elts : List Expr} {kk : Nat} {x : Str}
theorem iEnum' (hG : X.K = G.K) (hx : x = "enumerate") (h : PE X e (tE G Wx ma)) (hg : X.env.kindOf x = some .globalImplicit) (hm : X.mg x = none) (hs1 : starEach [e] X.env = (false, eval e X.env) :: starEach [] X.env) (hs : starEach [e] X.env = [(false, eval e X.env)]) : PI X (.Tuple elts kk tpos) (.Call (.Name x p) [e] [] pos) (tI G Wx (iEnA ma)) := by
  subst hx
  have r1 := pi_enum (X := X) (p := p) (pos := pos) (tpos := tpos) (elts := elts) (kk := kk) hg hm (pa_cons h pa_nil hs1) hs
  have r2 := pi_enumT (X := X) (p := p) (pos := pos) (tpos := tpos) (elts := elts) (kk := kk) hg hm (pa_cons h pa_nil hs1) hs
  rw [hG] at r1 r2
  have r1 := r1.weak w_iEn
  have r2 := r2.weak w_iEnT
  refine ⟨fun pins s σ H R I ⟨μ, ρ, hm, st, p⟩ => ?_⟩
  unfold iEnA at p
  split at p
  · exact r2.run pins s σ H R I ⟨μ, ρ, hm, st, p⟩
  · exact r1.run pins s σ H R I ⟨μ, ρ, hm, st, p⟩
end
end ML

set_option maxHeartbeats 4000000
/-! defs by what they are passed: star parameters, defaults; their calls -/
namespace ML
open PySem L2
def spR (G : Gm) (f : MF) : Sp := fun vs H Q E => ∃ μ h ws, HRel G μ h H ∧ RUs G.K μ h.length H ws vs ∧ Post G (PV G Q) E μ h H (f ws h)
abbrev FnRM (P : Program) (w : World) (G : Gm) (mg : Str → Option Value) (base : Heap) (k : Nat) (f : Addr) (m : MF) : Prop := FnR P w G.K mg base (L2.CX P w) k f (spR G m)
/-- what is left over is a tuple -/
def starOf (n : Nat) (f : MF) : MF := fun ws h => if n ≤ ws.length ∧ ws.length ≤ LIM then f (ws.take n ++ [.tup (ws.drop n)]) h else none
section
variable {P : Program} {w : World} {G : Gm} {mg : Str → Option Value} {base : Heap}
theorem fn_MS {x qual pv : Str} {st : Stmt} {f : Addr} {fd : FuncData} {N ps : List Str} {k : Nat} {m : MS} (F : Fun G.K x qual st f fd) (S : FnScope N (ps ++ [pv]) (defScope st))
    (hb : ∀ (kV doc pm : Value) (an : Option Addr) (cdv ct : Value) (us rest : List Value), us.length = ps.length → bindArgs (PySem.W.fnOf x qual (defArgs st) (defBody st) (defScope st) .none kV doc pm an cdv ct) ⟨us ++ rest, []⟩ = (newTuple rest >>= fun t => pure (ps.zip us ++ [(pv, t)])))
    (hbody : ∀ (cdv : Value) (A : Around) (outer : List Env) (s : Shared) (H : Hp) (E : XK), Room k (A.deeper (PyProof.Rows.envOfC qual (defScope st) s.heap.objs.size f cdv)) →
      Takes (cxOf (L2.CX P w) P w G.K mg base N qual (defScope st) f cdv A outer s H E) (wDef E) →
      PSs (cxOf (L2.CX P w) P w G.K mg base N qual (defScope st) f cdv A outer s H E) (defBody st) (tS G (wDef E) m)) :
    FnRM P w G mg base (k + 1) f (starOf ps.length (mfun (ps.length + 1) N.length m)) := by
  obtain ⟨oc, od, kV, doc, pm, an, cdv, ct, osl, rfl, lk, hcd⟩ := F.ex
  have z := StX.fn_star (sp := spM G (ps.length + 1) (mfun (ps.length + 1) N.length m)) (k := k) (CX := L2.CX P w) (P := P) (w := w) (mg := mg) (base := base) lk hcd S StX.cxUp (hb kV doc pm an cdv ct) (fun A outer s H vs Q E hr hsp => ⟨_, hbody cdv A outer s H E hr (takes_of rfl rfl rfl rfl), ?_⟩)
  · refine z.imp fun vs H Q E ⟨μ, h, ws, rel, rs, p⟩ => ?_
    unfold starOf at p
    split at p
    · rename_i hl
      have hlen := RUs.length rs
      refine ⟨vs.take ps.length, vs.drop ps.length, (List.take_append_drop _ _).symm, by simp; omega, ?_, fun q hq => ?_⟩
      · rw [List.length_drop]; exact Nat.le_trans (Nat.sub_le _ _) (lim_le (by rw [hlen]; exact hl.2))
      · have g := Gr.fresh (o := .tup (vs.drop ps.length)) rel hq
        have r1 := (RUs.take ps.length rs)
        have r2 := (RUs.drop ps.length rs)
        refine ⟨μ, h, _, g.rel, (g.rus r1).append (RUs.cons (ru_tup (.inl (.inl upd_same)) (g.rus r2)) RUs.nil), by simp; omega, p.on g⟩
    · exact False.elim p
  · obtain ⟨μ, h, ws, rel, rs, hl, p⟩ := hsp
    refine ⟨μ, _, h, st_start rel rs hl, ?_⟩
    unfold mfun at p
    have hw : ws.length = ps.length + 1 := by rw [← RUs.length rs]; exact hl
    rw [if_pos hw] at p
    cases e : m (ws.map some ++ List.replicate (N.length - (ps.length + 1)) none) h with
    | none => rw [e] at p; exact p
    | some r =>
      rw [e] at p
      cases r with
      | nx ρ' h1 => exact fun μ' σ' H' g s' => p μ' H' g _ rfl
      | rt w h1 => exact fun μ' H' v g r => p μ' H' g v r
      | bk ρ' h1 => exact False.elim p
      | ct ρ' h1 => exact False.elim p
      | ex c fs ρ' h1 => exact fun μ' σ' H' cls d g s' rx => p μ' H' cls d g rx
end
/-! ### calls by such promises -/
def tMakeRS (C : Addr) (sp : Sp) (E : St → XK) (t : TA) : TE := fun σ H Q => t σ H fun vs H1 => ∀ x dx, H1 x = Option.none → H1 dx = Option.none → dx ≠ x →
  sp (V.ref x :: vs) (upd (upd H1 dx (.own x)) x (.ins C dx [])) (fun v H2 => v = .non ∧ Q (.ref x) H2) (E σ)
section
variable {X : Cx} {CX : CXT} {k : Nat} {f C : Addr} {sp : Sp} {E : St → XK} {x : Str} {e : Expr} {es : List Expr} {t : TA} {p pos : Pos}
theorem run_makeRS {pins : List (Addr × Obj)} {σ : L2.St} {H : Hp} {s : Shared} {Q : VK} {us : List Value} {vs : List V} (M : Mk X.K C f) (F : FnR X.prog X.w X.K X.mg X.base CX k f sp) (hr : Room (k + 1) X.A) (hx : PassesAt CX X σ (E σ)) (I : Inv X pins σ H s) (r : Vals vs us)
    (h : ∀ x dx, H x = Option.none → H dx = Option.none → dx ≠ x → sp (V.ref x :: vs) (upd (upd H dx (.own x)) x (.ins C dx [])) (fun v H2 => v = .non ∧ Q (.ref x) H2) (E σ)) :
    wpAny (model X.prog X.w) X.A (call (.ref C) us) (EP X pins σ Q) X.xe s := by
  have hq := h (s.heap.objs.size + 1) s.heap.objs.size (I.hok.fresh (Nat.le_succ _)) (I.hok.fresh (Nat.le_refl _)) (Nat.ne_of_lt (Nat.lt_succ_self _))
  have I2 := Inv.made (C := C) I
  have r2 : Vals (V.ref (s.heap.objs.size + 1) :: vs) (Value.ref (s.heap.objs.size + 1) :: us) := .cons rfl r
  refine wpAny_call (make_map (f := f) I.kIn M.makes M.init (beq_iff_eq.mp M.fn) (codeAny_mono (F _ X.stack _ _ (Value.ref (s.heap.objs.size + 1) :: us) _ _ (E σ) (hr.make C us []) (I2.env0.make C us []) r2 hq) fun r s' hq' => ?_))
  cases r with
  | error e => exact hx pins _ _ e s' I2 hq'
  | ok fl =>
    cases fl with
    | ret u =>
      obtain ⟨v, H', I3, rv, ev, q3⟩ := I2.after hq'
      subst ev
      exact ⟨rv, ⟨V.ref (s.heap.objs.size + 1), H', I3, rfl, q3⟩⟩
    | next => exact False.elim hq'
    | brk => exact False.elim hq'
    | cont => exact False.elim hq'
theorem pe_makeRS (M : Mk X.K C f) (F : FnR X.prog X.w X.K X.mg X.base CX k f sp) (hr : Room (k + 1) X.A) (hg : Gl X x) (hm : X.mg x = some (.ref C)) (hx : ∀ σ, PassesAt CX X σ (E σ)) (ha : PA X (e :: es) t) (hdb : (x == ("__debug__" : Str)) = false)
    (he : starEach (e :: es) X.env = (false, eval e X.env) :: starEach es X.env) (hpl : (backTo pos (starEach es X.env)).any (·.1) = false) : PE X (.Call (.Name x p) (e :: es) [] pos) (tMakeRS C sp E t) := by
  refine ⟨fun pins s σ H Q I h => ?_⟩
  refine wpAny_Call_Name_kw (ld_glob I hg hm ?_ hdb)
  refine PySem.W.callWith_K (h₀ := X.base) I.ok.mod.kin M.kp (thn (ha.run pos pins s σ H _ I h) fun us s1 ⟨vs, H1, I1, r, q⟩ => ⟨I1.kIn, ?_⟩) he hpl
  exact run_makeRS M F hr (hx σ) I1 r q
theorem run_fnRS {pins : List (Addr × Obj)} {σ : L2.St} {H : Hp} {s : Shared} {Q : VK} {us : List Value} {vs : List V} (F : FnR X.prog X.w X.K X.mg X.base CX k f sp) (hr : Room k X.A) (hx : PassesAt CX X σ (E σ)) (I : Inv X pins σ H s) (r : Vals vs us)
    (h : sp vs H Q (E σ)) : wpAny (model X.prog X.w) X.A (call (.ref f) us) (EP X pins σ Q) X.xe s := by
  refine wpAny_call (codeAny_mono (F X.A X.stack s H us vs Q (E σ) hr I.env0 r h) fun r s' hq => ?_)
  cases r with
  | error e => exact hx pins H s e s' I hq
  | ok fl =>
    cases fl with
    | ret u => exact I.after hq
    | next => exact False.elim hq
    | brk => exact False.elim hq
    | cont => exact False.elim hq
theorem pe_callRS (F : FnR X.prog X.w X.K X.mg X.base CX k f sp) (hr : Room k X.A) (hg : Gl X x) (hm : X.mg x = some (.ref f)) (hk : PySem.W.keepIn X.K (.ref f) = true) (hx : ∀ σ, PassesAt CX X σ (E σ)) (ha : PA X (e :: es) t) (hdb : (x == ("__debug__" : Str)) = false)
    (he : starEach (e :: es) X.env = (false, eval e X.env) :: starEach es X.env) (hpl : (backTo pos (starEach es X.env)).any (·.1) = false) : PE X (.Call (.Name x p) (e :: es) [] pos) (tCallS sp E t) := by
  refine ⟨fun pins s σ H Q I h => ?_⟩
  refine wpAny_Call_Name_kw (ld_glob I hg hm ?_ hdb)
  refine PySem.W.callWith_K (h₀ := X.base) I.ok.mod.kin hk (thn (ha.run pos pins s σ H _ I h) fun us s1 ⟨vs, H1, I1, r, q⟩ => ⟨I1.kIn, ?_⟩) he hpl
  exact run_fnRS F hr (hx σ) I1 r q
end
section
variable {G : Gm} {Wx : WX} {μ μ' : Nat → Addr} {h h' : Hm} {H H' : Hp} {ρ : Ev} {σ : L2.St}
theorem w_callR {f : MF} {es : MA} : ∀ σ H Q, tE G Wx (mCB f es) σ H Q → tCallS (spR G f) (WE Wx) (tA G Wx es) σ H Q := fun σ H Q ⟨μ, ρ, h, s, p⟩ =>
  ⟨μ, ρ, h, s, (Post.bnd p).mono fun μ1 h1 H1 ws g q vs rs => ⟨μ1, h1, ws, g.rel, rs, q⟩⟩
theorem w_makeR {c : Nat} {f : MF} {es : MA} : ∀ σ H Q, tE G Wx (mMake c f es) σ H Q → tMakeRS (G.ca c) (spR G f) (WE Wx) (tA G Wx es) σ H Q := fun σ H Q ⟨μ, ρ, h, s, p⟩ =>
  ⟨μ, ρ, h, s, (Post.bnd p).mono fun μ1 h1 H1 ws g q vs rs x dx nx nd ne => by
    have g1 : Gr G μ1 h1 H1 μ1 h1 (upd H1 dx (.own x)) := Gr.fresh g.rel nd
    have nx' : upd H1 dx (.own x) x = none := by rw [upd_ne ne.symm]; exact nx
    have g2 := Gr.new (o := .ins (G.ca c) dx []) (c := .ins c []) g1.rel nx' ⟨dx, [], upd_same, by simp only [RFs]⟩
    have gg := g1.trans g2
    refine ⟨_, h1 ++ [.ins c []], .ref h1.length :: ws, gg.rel, RUs.cons (by simp only [RU]; exact ⟨by simp, by rw [nu_new]⟩) (gg.rus rs), ?_⟩
    have q : Post G (PV G Q) (fun cls d H' => Wx cls d σ H') (nu μ1 h1.length x) (h1 ++ [.ins c []]) (upd (upd H1 dx (.own x)) x (.ins (G.ca c) dx [])) (bnd (f (.ref h1.length :: ws) (h1 ++ [.ins c []])) (mkEnd h1.length)) := by
      have q' : Post G (PV G Q) (fun cls d H' => Wx cls d σ H') μ1 h1 H1 (bnd (f (.ref h1.length :: ws) (h1 ++ [.ins c []])) (mkEnd h1.length)) := q
      exact q'.on gg
    have q2 := Post.bnd q
    cases er : f (.ref h1.length :: ws) (h1 ++ [.ins c []]) with
    | none => rw [er] at q2; exact q2
    | some r =>
      rw [er] at q2
      cases r with
      | ok w h3 =>
        intro μ' H' g' v rv
        have q3 := q2 μ' H' g'
        cases w with
        | non =>
          simp only [RU] at rv
          subst rv
          refine ⟨rfl, Post.ok g'.rel q3 _ ?_⟩
          simp only [RU]
          have hl : h1.length < (h1 ++ [Cell.ins c []]).length := by simp
          exact ⟨Nat.lt_of_lt_of_le hl g'.len, by rw [g'.mu _ hl, nu_new]⟩
        | _ => exact False.elim q3
      | ex c fs h3 => exact q2⟩
end
/-- a def by what it is passed -/
structure CalleeR (P : Program) (w : World) (G : Gm) (mg : Str → Option Value) (base : Heap) (x : Str) (k : Nat) (m : MF) : Prop where
  ex : ∃ a, mg x = some (.ref a) ∧ PySem.W.keepIn G.K (.ref a) = true ∧ FnRM P w G mg base k a m
structure OwnClsR (P : Program) (w : World) (G : Gm) (mg : Str → Option Value) (base : Heap) (x : Str) (k c : Nat) (m : MF) : Prop where
  gl : mg x = some (.ref (G.ca c))
  ex : ∃ fI, Mk G.K (G.ca c) fI ∧ FnRM P w G mg base k fI m
section
variable {X : Cx} {G : Gm} {Wx : WX} {e : Expr} {es : List Expr} {x : Str} {pos p : Pos} {mas : MA}
theorem dCallR {k j : Nat} {m : MF} (hG : X.K = G.K) (cl : CalleeR X.prog X.w G X.mg X.base x k m) (hr : Room j X.A) (hk : k ≤ j) (tk : Takes X Wx) (ha : PA X (e :: es) (tA G Wx mas)) (hg : X.env.kindOf x = some .globalImplicit) (hd : (x == ("__debug__" : Str)) = false) (so : StarOk X pos e es) :
    PE X (.Call (.Name x p) (e :: es) [] pos) (tE G Wx (mCB m mas)) := by
  obtain ⟨a, hm, kp, F⟩ := cl.ex
  obtain ⟨K, ca⟩ := G
  subst hG
  exact (pe_callRS F (hr.mono hk) hg hm kp (passAt tk) ha hd so.s so.p).weak w_callR
theorem dMakeR {k j c : Nat} {mf : MF} (hG : X.K = G.K) (oc : OwnClsR X.prog X.w G X.mg X.base x k c mf) (hr : Room j X.A) (hk : k + 1 ≤ j) (tk : Takes X Wx) (ha : PA X (e :: es) (tA G Wx mas)) (hg : X.env.kindOf x = some .globalImplicit) (hd : (x == ("__debug__" : Str)) = false) (so : StarOk X pos e es) :
    PE X (.Call (.Name x p) (e :: es) [] pos) (tE G Wx (mMake c mf mas)) := by
  obtain ⟨fI, M, F⟩ := oc.ex
  have gl := oc.gl
  obtain ⟨K, ca⟩ := G
  subst hG
  exact (pe_makeRS M F (hr.mono hk) hg gl (passAt tk) ha hd so.s so.p).weak w_makeR
end
end ML

set_option maxHeartbeats 4000000
/-! targets of several names; rows turned about -/
namespace ML
open PySem L2
section
variable {G : Gm} {Wx : WX} {μ μ' : Nat → Addr} {h h' : Hm} {H H' : Hp} {ρ : Ev} {σ : L2.St}
def mPar2 (i j : Nat) (es : MA) : MS := fun ρ h => bndS ρ (es ρ h) fun ws h1 => match ws with
  | [w, u] => some (.nx ((ρ.set i (some w)).set j (some u)) h1)
  | _ => none
theorem w_par2 {i j : Nat} {es : MA} : ∀ D σ H, tS G Wx (mPar2 i j es) D σ H → tPar i j (tA G Wx es) D σ H := fun D σ H ⟨μ, ρ, h, s, p⟩ =>
  ⟨μ, ρ, h, s, (PostS.bnd s p).mono fun μ1 h1 H1 ws g q vs rs => by
    split at q
    · simp only [RUs] at rs
      obtain ⟨v, _, rfl, r1, u, _, rfl, r2, rfl⟩ := rs
      exact ⟨v, u, rfl, q μ1 _ H1 (Gr.refl g.rel) (((s.on g).set i r1).set j r2)⟩
    · exact False.elim q⟩
def mPar3 (i j l : Nat) (es : MA) : MS := fun ρ h => bndS ρ (es ρ h) fun ws h1 => match ws with
  | [w, u, x] => some (.nx (((ρ.set i (some w)).set j (some u)).set l (some x)) h1)
  | _ => none
theorem w_par3 {i j l : Nat} {es : MA} : ∀ D σ H, tS G Wx (mPar3 i j l es) D σ H → tPar3 i j l (tA G Wx es) D σ H := fun D σ H ⟨μ, ρ, h, s, p⟩ =>
  ⟨μ, ρ, h, s, (PostS.bnd s p).mono fun μ1 h1 H1 ws g q vs rs => by
    split at q
    · simp only [RUs] at rs
      obtain ⟨v, _, rfl, r1, u, _, rfl, r2, y, _, rfl, r3, rfl⟩ := rs
      exact ⟨v, u, y, rfl, q μ1 _ H1 (Gr.refl g.rel) ((((s.on g).set i r1).set j r2).set l r3)⟩
    · exact False.elim q⟩
def mRevL (e : ME) : ME := fun ρ h => bnd (e ρ h) fun w h1 => match w with
  | .ref i => match rd h1 i with
    | some ws => some (.ok (.ref h1.length) (h1 ++ [.lst ws.reverse]))
    | none => none
  | _ => none
theorem RUs.reverse {K : PySem.W.Frag} {n : Nat} : ∀ {ws : List U} {xs : List V}, RUs K μ n H ws xs → RUs K μ n H ws.reverse xs.reverse
  | [], xs, r => by simp only [RUs] at r; subst r; exact RUs.nil
  | w :: ws, xs, r => by
    simp only [RUs] at r
    obtain ⟨y, ys, rfl, r1, rs⟩ := r
    rw [List.reverse_cons, List.reverse_cons]
    exact (RUs.reverse rs).append (RUs.cons r1 RUs.nil)
theorem w_revL {e : ME} : ∀ σ H Q, tE G Wx (mRevL e) σ H Q → tRevL G.K (tE G Wx e) σ H Q := fun σ H Q ⟨μ, ρ, h, s, p⟩ =>
  ⟨μ, ρ, h, s, (Post.bnd p).mono fun μ1 h1 H1 wx g q x rx => by
    cases wx with
    | ref i =>
      simp only [RU] at rx
      obtain ⟨hi, rfl⟩ := rx
      simp only at q
      split at q
      · rename_i ws er
        obtain ⟨xs, sq, rs⟩ := rd_ok g.rel er
        refine ⟨_, xs, rfl, sq, fun l nl => ?_⟩
        have gD := Gr.new (o := .lst xs.reverse) (c := .lst ws.reverse) g.rel nl ⟨_, upd_same, RUs.mono (fun i hi => nu_old hi) (Nat.le_succ _) (TS0.fresh nl) _ _ rs.reverse⟩
        refine q _ _ gD _ ?_
        simp only [RU]
        exact ⟨by simp, by rw [nu_new]⟩
      · exact False.elim q
    | _ => exact False.elim q⟩
end
section
variable {X : Cx} {G : Gm} {Wx : WX} {e a b c : Expr} {es : List Expr} {x y z : Str} {pos p px py pz pt pt2 p1 p2 p3 : Pos} {ma : ME} {mas : MA} {kt k2 : Nat}
theorem dPar2 {i j : Nat} (hc : X.calm = true) (hN : X.N.Nodup) (hi : X.N[i]? = some x) (hj : X.N[j]? = some y) (hij : i ≠ j) (hx : X.env.scope.names.lookup x = some .local) (hy : X.env.scope.names.lookup y = some .local) (ha : PA X [a, b] (tA G Wx mas))
    (hw : swappedStores [.Tuple [.Name x px, .Name y py] kt pt] (.Tuple [a, b] k2 pt2) X.env = pure (some [x, y]))
    (hs : swapsWithSole [.Tuple [.Name x px, .Name y py] kt pt] (.Tuple [a, b] k2 pt2) pos.line X.env = pure false) :
    PS X (.Assign [.Tuple [.Name x px, .Name y py] kt pt] (.Tuple [a, b] k2 pt2) pos) (tS G Wx (mPar2 i j mas)) := (ps_par hc hN hi hj hij hx hy ha hw hs).weak w_par2
theorem dPar3 {i j l : Nat} (hc : X.calm = true) (hN : X.N.Nodup) (hi : X.N[i]? = some x) (hj : X.N[j]? = some y) (hl : X.N[l]? = some z) (hij : i ≠ j) (hil : i ≠ l) (hjl : j ≠ l)
    (hx : X.env.scope.names.lookup x = some .local) (hy : X.env.scope.names.lookup y = some .local) (hz : X.env.scope.names.lookup z = some .local) (ha : PA X [a, b, c] (tA G Wx mas))
    (hw : swappedStores [.Tuple [.Name x px, .Name y py, .Name z pz] kt pt] (.Tuple [a, b, c] k2 pt2) X.env = pure (some [x, y, z]))
    (hs : swapsWithSole [.Tuple [.Name x px, .Name y py, .Name z pz] kt pt] (.Tuple [a, b, c] k2 pt2) pos.line X.env = pure false) :
    PS X (.Assign [.Tuple [.Name x px, .Name y py, .Name z pz] kt pt] (.Tuple [a, b, c] k2 pt2) pos) (tS G Wx (mPar3 i j l mas)) := (ps_par3 hc hN hi hj hl hij hil hjl hx hy hz ha hw hs).weak w_par3
theorem dRevL {k : Nat} (hG : X.K = G.K) (he : PE X e (tE G Wx ma)) : PE X (.Subscript e (.Slice none none (some (.UnaryOp .USub (.Constant (.int 1) k p1) p2)) p3) pos) (tE G Wx (mRevL ma)) := by
  have r := pe_revL (k := k) (p1 := p1) (p2 := p2) (p3 := p3) (pos := pos) he
  rw [hG] at r
  exact r.weak w_revL
theorem gTupD {g : MGs} {n k : Nat} (hG : X.K = G.K) (hc : X.calm = true) (h : PGs X es (tGs G g)) (hn : (assignEach es X.env).length = n) (hst : (assignEach es X.env).findIdx? (·.1) = none) : PG X (.Tuple es k pos) (tG G (gT n g)) := by
  have r := pg_tup (k := k) (pos := pos) hc h hn hst
  rw [hG] at r
  exact r.weak w_gT
theorem gConsD {g : MG} {gs : MGs} (h1 : PG X e (tG G g)) (h2 : PGs X es (tGs G gs)) (hs : (assignEach (e :: es) X.env).map (·.2) = assign e X.env :: (assignEach es X.env).map (·.2)) : PGs X (e :: es) (tGs G (gC g gs)) := (pgs_cons h1 h2 hs).weak w_gC
end
end ML

set_option maxHeartbeats 4000000
/-! single steps of the computations, as facts -/
namespace ML
open PySem L2
section
variable {e a b : ME} {es : MA} {ρ ρ1 : Ev} {h h1 h2 h3 : Hm} {w x y : U} {ws : List U}
theorem cons_e (e1 : e ρ h = some (.ok w h1)) (e2 : es ρ h1 = some (.ok ws h2)) : mCons e es ρ h = some (.ok (w :: ws) h2) := by
  unfold mCons; rw [e1]; simp [e2]
theorem nil_e : mNil ρ h = some (.ok [] h) := rfl
theorem tup_e (e : es ρ h = some (.ok ws h1)) (hl : ws.length ≤ LIM) : mTup es ρ h = some (.ok (.tup ws) h1) := by
  unfold mTup; rw [e]; simp [hl]
theorem lst_e (e : es ρ h = some (.ok ws h1)) (hl : ws.length ≤ LIM) : mLst es ρ h = some (.ok (.ref h1.length) (h1 ++ [.lst ws])) := by
  unfold mLst; rw [e]; simp [hl]
theorem op_e {f : O2} {r : Option (Rz U)} (e1 : a ρ h = some (.ok x h1)) (e2 : b ρ h1 = some (.ok y h2)) (e3 : f x y h2 = r) : mOp f a b ρ h = r := by
  unfold mOp; rw [e1]; simp only [bnd_ok]; rw [e2]; exact e3
theorem var_e {i : Nat} (e : ρ[i]? = some (some w)) : mVar i ρ h = some (.ok w h) := by
  unfold mVar; rw [e]
theorem c_e : mC w ρ h = some (.ok w h) := rfl
theorem neg_e {k : Int} (e1 : e ρ h = some (.ok (.int k) h1)) : mNeg e ρ h = some (.ok (.int (-k)) h1) := by
  unfold mNeg; rw [e1]; rfl
theorem cb_e {f : MF} {r : Option (Rz U)} (e1 : es ρ h = some (.ok ws h1)) (e2 : f ws h1 = r) : mCB f es ρ h = r := by
  unfold mCB; rw [e1]; exact e2
theorem cons_x {c : Nat} {fs : List (Str × U)} (e1 : e ρ h = some (.ex c fs h1)) : mCons e es ρ h = some (.ex c fs h1) := by
  unfold mCons; rw [e1]; rfl
theorem cons_x2 {c : Nat} {fs : List (Str × U)} (e1 : e ρ h = some (.ok w h1)) (e2 : es ρ h1 = some (.ex c fs h2)) : mCons e es ρ h = some (.ex c fs h2) := by
  unfold mCons; rw [e1]; simp [e2]
theorem cb_x {f : MF} {c : Nat} {fs : List (Str × U)} (e1 : es ρ h = some (.ex c fs h1)) : mCB f es ρ h = some (.ex c fs h1) := by
  unfold mCB; rw [e1]; rfl
theorem tst_e {f : O2} {k : Bool} (e1 : a ρ h = some (.ok x h1)) (e2 : b ρ h1 = some (.ok y h2)) (e3 : f x y h2 = some (.ok (.bl k) h3)) : mB (mOp f a b) ρ h = some (.ok k h3) := by
  unfold mB; rw [op_e e1 e2 e3]; rfl
theorem b_e {k : Bool} (e1 : e ρ h = some (.ok (.bl k) h1)) : mB e ρ h = some (.ok k h1) := by
  unfold mB; rw [e1]; rfl
theorem not_e {t : MT} {k : Bool} (e1 : t ρ h = some (.ok k h1)) : mTNot t ρ h = some (.ok (!k) h1) := by
  unfold mTNot; rw [e1]; rfl
theorem or_t {t u : MT} (e1 : t ρ h = some (.ok true h1)) : mTOr t u ρ h = some (.ok true h1) := by
  unfold mTOr; rw [e1]; rfl
theorem or_f {t u : MT} {r : Option (Rz Bool)} (e1 : t ρ h = some (.ok false h1)) (e2 : u ρ h1 = r) : mTOr t u ρ h = r := by
  unfold mTOr; rw [e1]; simp only [bnd_ok]; rw [if_neg (by decide)]; exact e2
theorem and_f {t u : MT} (e1 : t ρ h = some (.ok false h1)) : mTAnd t u ρ h = some (.ok false h1) := by
  unfold mTAnd; rw [e1]; rfl
theorem and_t {t u : MT} {r : Option (Rz Bool)} (e1 : t ρ h = some (.ok true h1)) (e2 : u ρ h1 = r) : mTAnd t u ρ h = r := by
  unfold mTAnd; rw [e1]; simp only [bnd_ok]; rw [if_pos trivial]; exact e2
theorem isn_e {neg : Bool} (e1 : e ρ h = some (.ok x h1)) : mIsN neg e ρ h = some (.ok (.bl (isNon x != neg)) h1) := by
  unfold mIsN; rw [e1]; rfl
theorem isn_b {neg k : Bool} (e1 : e ρ h = some (.ok x h1)) (hk : (isNon x != neg) = k) : mB (mIsN neg e) ρ h = some (.ok k h1) := by
  subst hk; exact b_e (isn_e e1)
theorem ifE_t {t : MT} {r : Option (Rz U)} (e1 : t ρ h = some (.ok true h1)) (e2 : a ρ h1 = r) : mIfE t a b ρ h = r := by
  unfold mIfE; rw [e1]; simp only [bnd_ok]; rw [if_pos trivial]; exact e2
theorem ifE_f {t : MT} {r : Option (Rz U)} (e1 : t ρ h = some (.ok false h1)) (e2 : b ρ h1 = r) : mIfE t a b ρ h = r := by
  unfold mIfE; rw [e1]; simp only [bnd_ok]; rw [if_neg (by decide)]; exact e2
theorem sl_e {f : OS} {lo hi : MO} {l u : Option Int} {r : Option (Rz U)} (e1 : e ρ h = some (.ok x h1)) (e2 : lo ρ h1 = some (.ok l h2)) (e3 : hi ρ h2 = some (.ok u h3)) (e4 : f x l u h3 = r) : mSl f e lo hi ρ h = r := by
  unfold mSl; rw [e1]; simp only [bnd_ok]; rw [e2]; simp only [bnd_ok]; rw [e3]; exact e4
theorem no_e : mNoPart ρ h = some (.ok none h) := rfl
theorem part_e {k : Int} (e1 : e ρ h = some (.ok (.int k) h1)) : mPart e ρ h = some (.ok (some k) h1) := by
  unfold mPart; rw [e1]; rfl
/-! statements -/
theorem set_s {i : Nat} (e1 : e ρ h = some (.ok w h1)) : mSet i e ρ h = some (.nx (ρ.set i (some w)) h1) := by
  unfold mSet; rw [e1]; rfl
theorem asg_s {g : MG} (e1 : e ρ h = some (.ok w h1)) (e2 : g w ρ = some ρ1) : mAsg g e ρ h = some (.nx ρ1 h1) := by
  unfold mAsg; rw [e1]; simp only [bndS_ok]; rw [e2]
theorem drop_s (e1 : e ρ h = some (.ok w h1)) : mDrop e ρ h = some (.nx ρ h1) := by
  unfold mDrop; rw [e1]; rfl
theorem drop_x {c : Nat} {fs : List (Str × U)} (e1 : e ρ h = some (.ex c fs h1)) : mDrop e ρ h = some (.ex c fs ρ h1) := by
  unfold mDrop; rw [e1]; rfl
theorem ret_s (e1 : e ρ h = some (.ok w h1)) : mRet e ρ h = some (.rt w h1) := by
  unfold mRet; rw [e1]; rfl
theorem ret_x {c : Nat} {fs : List (Str × U)} (e1 : e ρ h = some (.ex c fs h1)) : mRet e ρ h = some (.ex c fs ρ h1) := by
  unfold mRet; rw [e1]; rfl
theorem if_t {c : MT} {s t : MS} (e : c ρ h = some (.ok true h1)) : mIf c s t ρ h = s ρ h1 := by
  unfold mIf; rw [e]; rfl
theorem if_f {c : MT} {s t : MS} (e : c ρ h = some (.ok false h1)) : mIf c s t ρ h = t ρ h1 := by
  unfold mIf; rw [e]; rfl
theorem seq_n {s t : MS} (e : s ρ h = some (.nx ρ1 h1)) : mSeq s t ρ h = t ρ1 h1 := by unfold mSeq; rw [e]
theorem seq_x {s t : MS} {c : Nat} {fs : List (Str × U)} (e : s ρ h = some (.ex c fs ρ1 h1)) : mSeq s t ρ h = some (.ex c fs ρ1 h1) := by unfold mSeq; rw [e]
theorem seq_r {s t : MS} (e : s ρ h = some (.rt w h1)) : mSeq s t ρ h = some (.rt w h1) := by unfold mSeq; rw [e]
theorem skip_s : mSkip ρ h = some (.nx ρ h) := rfl
/-! a def's end -/
theorem fun_r {n N : Nat} {body : MS} (hl : ws.length = n) (e : body (ws.map some ++ List.replicate (N - n) none) h = some (.rt w h1)) : mfun n N body ws h = some (.ok w h1) := by
  unfold mfun; rw [if_pos hl, e]
theorem fun_n {n N : Nat} {body : MS} (hl : ws.length = n) (e : body (ws.map some ++ List.replicate (N - n) none) h = some (.nx ρ1 h1)) : mfun n N body ws h = some (.ok .non h1) := by
  unfold mfun; rw [if_pos hl, e]
theorem fun_x {n N : Nat} {body : MS} {c : Nat} {fs : List (Str × U)} (hl : ws.length = n) (e : body (ws.map some ++ List.replicate (N - n) none) h = some (.ex c fs ρ1 h1)) : mfun n N body ws h = some (.ex c fs h1) := by
  unfold mfun; rw [if_pos hl, e]
/-! heaps -/
theorem app_at {H : Hm} {r : Nat} {x : Cell} (e : Hm) (hc : H[r]? = some x) : (H ++ e)[r]? = some x := by
  rw [List.getElem?_append_left (List.getElem?_eq_some_iff.mp hc).1]; exact hc
theorem lst_at {l : Nat} {us : List U} (e : h[l]? = some (.lst us)) : rd h l = some us := ev_rdL e
theorem add_l {i j : Nat} {xs ys : List U} (hi : h[i]? = some (.lst xs)) (hj : h[j]? = some (.lst ys)) (hl : xs.length + ys.length ≤ LIM) : oAdd (.ref i) (.ref j) h = some (.ok (.ref h.length) (h ++ [.lst (xs ++ ys)])) := by
  unfold oAdd
  simp only [oI0, oAddS, oAddL, hi, hj]
  rw [if_pos hl]
theorem cut_l {L : Nat} {xs : List U} {lo hi : Option Int} (e : h[L]? = some (.lst xs)) : oSl (.ref L) lo hi h = some (.ok (.ref h.length) (h ++ [.lst (cut xs lo hi)])) := by
  unfold oSl oSlS oSlL
  simp [rd, e]
theorem cut_hi {xs : List U} (k : Nat) : cut xs none (some (k : Int)) = xs.take k := by
  unfold cut
  rw [HT.sIx_nat, HT.sIx_none]
  simp
theorem cut_lo {xs : List U} (k : Nat) : cut xs (some (k : Int)) none = xs.drop k := by
  unfold cut
  rw [HT.sIx_nat, HT.sIx_none]
  by_cases h : k ≤ xs.length
  · rw [Nat.min_eq_left h, List.take_of_length_le (by simp)]
  · rw [Nat.min_eq_right (by omega), List.drop_of_length_le (Nat.le_refl _), List.drop_of_length_le (by omega)]
    simp
theorem cut_lo' {xs : List U} (k : Nat) (hk : 0 < k) : cut xs (some (-(k : Int))) none = xs.drop (xs.length - k) := by
  unfold cut
  rw [HT.sIx_none]
  unfold HT.sIx
  simp only
  rw [if_pos (by omega), show (-(k : Int) + (xs.length : Int)).toNat = xs.length - k by omega]
  rw [List.take_of_length_le (by simp)]
theorem cut_hi' {xs : List U} (k : Nat) (hk : 0 < k) : cut xs none (some (-(k : Int))) = xs.take (xs.length - k) := by
  unfold cut
  rw [HT.sIx_none]
  unfold HT.sIx
  simp only
  rw [if_pos (by omega), show (-(k : Int) + (xs.length : Int)).toNat = xs.length - k by omega]
  simp
/-- the k-th of a row -/
theorem ix_at {us : List U} {k : Nat} {i : Int} (hi : i = (k : Int)) (e : us[k]? = some w) : atI us i = some w := by
  subst hi
  have hk := (List.getElem?_eq_some_iff.mp e).1
  unfold atI ixN
  rw [if_pos (by omega), if_pos (by omega)]
  simpa using e
theorem ix_l {us : List U} {L k : Nat} {i : Int} (eL : h[L]? = some (.lst us)) (hi : i = (k : Int)) (e : us[k]? = some w) : oIx (.ref L) (.int i) h = some (.ok w h) := ev_ix (ev_rdL eL) (ix_at hi e)
theorem ix_last {us : List U} {L : Nat} (eL : h[L]? = some (.lst (us ++ [w]))) : oIx (.ref L) (.int (-1)) h = some (.ok w h) := by
  refine ev_ix (ev_rdL eL) ?_
  unfold atI ixN
  rw [if_neg (by omega), if_pos (by simp; omega)]
  simp only [Option.bind_some]
  rw [show (-1 + ((us ++ [w]).length : Int)).toNat = us.length by simp; omega]
  simp
theorem len_l {us : List U} {L : Nat} (eL : h[L]? = some (.lst us)) : fLen [.ref L] h = some (.ok (.int us.length) h) := ev_len (ev_rdL eL)
theorem app_l {us : List U} {L : Nat} (e1 : a ρ h = some (.ok (.ref L) h1)) (e2 : b ρ h1 = some (.ok w h2)) (eL : h2[L]? = some (.lst us)) (hl : us.length < LIM) (hk : kList (.ref L) h1 = true) : mBM kList fAppend a (mCons b mNil) ρ h = some (.ok .non (h2.set L (.lst (us ++ [w])))) := by
  unfold mBM
  rw [e1]
  simp only [bnd_ok, hk, if_true]
  rw [cons_e e2 nil_e]
  simp [fAppend, eL, hl]
theorem klist {us : List U} {L : Nat} (eL : h[L]? = some (.lst us)) : kList (.ref L) h = true := by simp [kList, eL]
theorem set_end {c d : Cell} {L : Nat} (hL : L = h.length) : (h ++ [c]).set L d = h ++ [d] := by
  subst hL
  rw [List.set_append_right _ _ (Nat.le_refl _)]
  simp
/-! loops -/
theorem for_e {it : MI} {g : MG} {s : MS} {us : List U} {chk : Hm → Prop} {r : Option Sz} (e1 : it ρ h = some (.ok (us, chk) h1)) (e2 : forC chk g s us ρ h1 = r) : mFor it g s ρ h = r := by
  unfold mFor; rw [e1]; exact e2
theorem it_r1 {n : Int} (e1 : e ρ h = some (.ok (.int n) h1)) (h0 : -1000000000 ≤ n) (hn : n ≤ 1000000000) : iR1 e ρ h = some (.ok (rItems 0 n.toNat, fun _ => True) h1) := by
  unfold iR1; rw [e1]; simp [h0, hn]
theorem it_r2 {i j : Int} (e1 : a ρ h = some (.ok (.int i) h1)) (e2 : b ρ h1 = some (.ok (.int j) h2)) (i0 : -1000000000 ≤ i) (i1 : i ≤ 1000000000) (j0 : -1000000000 ≤ j) (j1 : j ≤ 1000000000) : iR2 a b ρ h = some (.ok (rItems i (j - i).toNat, fun _ => True) h2) := by
  unfold iR2; rw [e1]; simp only [bnd_ok]; rw [e2]; simp [i0, i1, j0, j1]
theorem it_l {us : List U} {L : Nat} (e1 : e ρ h = some (.ok (.ref L) h1)) (eL : h1[L]? = some (.lst us)) : iSeq e ρ h = some (.ok (us, fun h => h[L]? = some (.lst us)) h1) := by
  unfold iSeq iL; rw [e1]; simp [eL]
theorem it_el {us : List U} {L : Nat} (e1 : e ρ h = some (.ok (.ref L) h1)) (eL : h1[L]? = some (.lst us)) : iEnA e ρ h = some (.ok (eItems 0 us, fun h => h[L]? = some (.lst us)) h1) := by
  unfold iEnA iEn; rw [e1]; simp [eL]
theorem it_et {us : List U} (e1 : e ρ h = some (.ok (.tup us) h1)) : iEnA e ρ h = some (.ok (eItems 0 us, fun _ => True) h1) := by
  unfold iEnA iEnT; rw [e1]; simp
theorem it_t {us : List U} (e1 : e ρ h = some (.ok (.tup us) h1)) : iSeq e ρ h = some (.ok (us, fun _ => True) h1) := by
  unfold iSeq iT; rw [e1]; simp
theorem rItems_succ (lo : Int) (n : Nat) : rItems lo (n + 1) = .int lo :: rItems (lo + 1) n := by
  unfold rItems
  rw [List.range_succ_eq_map]
  simp only [List.map_cons, List.map_map]
  congr 1
  · simp
  · refine List.map_congr_left fun j _ => ?_
    simp only [Function.comp]
    congr 1
    omega
theorem rItems_zero (lo : Int) : rItems lo 0 = [] := rfl
end
section
variable {i j : Int} {h : Hm} {n : Nat}
theorem le_t (q : i ≤ j) : oLe (.int i) (.int j) h = some (.ok (.bl true) h) := by show some (Rz.ok (U.bl (decide (i ≤ j))) h) = _; rw [decide_eq_true q]
theorem le_f (q : ¬ i ≤ j) : oLe (.int i) (.int j) h = some (.ok (.bl false) h) := by show some (Rz.ok (U.bl (decide (i ≤ j))) h) = _; rw [decide_eq_false q]
theorem lt_t (q : i < j) : oLt (.int i) (.int j) h = some (.ok (.bl true) h) := by show some (Rz.ok (U.bl (decide (i < j))) h) = _; rw [decide_eq_true q]
theorem lt_f (q : ¬ i < j) : oLt (.int i) (.int j) h = some (.ok (.bl false) h) := by show some (Rz.ok (U.bl (decide (i < j))) h) = _; rw [decide_eq_false q]
theorem ge_t (q : i ≥ j) : oGe (.int i) (.int j) h = some (.ok (.bl true) h) := by show some (Rz.ok (U.bl (decide (j ≤ i))) h) = _; rw [decide_eq_true q]
theorem ge_f (q : ¬ i ≥ j) : oGe (.int i) (.int j) h = some (.ok (.bl false) h) := by show some (Rz.ok (U.bl (decide (j ≤ i))) h) = _; rw [decide_eq_false q]
theorem gt_t (q : i > j) : oGt (.int i) (.int j) h = some (.ok (.bl true) h) := by show some (Rz.ok (U.bl (decide (j < i))) h) = _; rw [decide_eq_true q]
theorem gt_f (q : ¬ i > j) : oGt (.int i) (.int j) h = some (.ok (.bl false) h) := by show some (Rz.ok (U.bl (decide (j < i))) h) = _; rw [decide_eq_false q]
theorem eq_t (q : i = j) : oEq n (.int i) (.int j) h = some (.ok (.bl true) h) := by rw [ev_eqI, decide_eq_true q]
theorem eq_f (q : i ≠ j) : oEq n (.int i) (.int j) h = some (.ok (.bl false) h) := by rw [ev_eqI, decide_eq_false q]
theorem ne_t (q : i ≠ j) : oNe n (.int i) (.int j) h = some (.ok (.bl true) h) := by rw [ev_neI, decide_eq_false q]; rfl
theorem ne_f (q : i = j) : oNe n (.int i) (.int j) h = some (.ok (.bl false) h) := by rw [ev_neI, decide_eq_true q]; rfl
end
theorem attr_x {f : Str} {a b : Nat → Bool} {c j : Nat} {fs : List (Str × U)} {e : ME} {ρ : Ev} {h h1 : Hm} {w : U} (e1 : e ρ h = some (.ok (.ref j) h1)) (e2 : h1[j]? = some (.exc c fs)) (hb : b c = true) (hf : fget f fs = some w) : mAttrX f a b e ρ h = some (.ok w h1) := by
  unfold mAttrX; rw [e1]; simp only [bnd_ok, e2, hb, hf, if_true]
theorem attr_i {f : Str} {a b : Nat → Bool} {c j : Nat} {fs : List (Str × U)} {e : ME} {ρ : Ev} {h h1 : Hm} {w : U} (e1 : e ρ h = some (.ok (.ref j) h1)) (e2 : h1[j]? = some (.ins c fs)) (hb : a c = true) (hf : fget f fs = some w) : mAttrX f a b e ρ h = some (.ok w h1) := by
  unfold mAttrX; rw [e1]; simp only [bnd_ok, e2, hb, hf, if_true]
end ML

set_option maxHeartbeats 4000000
/-! rising maps by rows: the arithmetic, without Python -/
namespace RM
abbrev Row := Int × Int × Bool
/-- the value of a row at a minute -/
def rv (r : Row) (m : Int) : Int := if r.2.2 then r.2.1 + m - r.1 else r.2.1
/-- what is known while minutes are looked at -/
structure S where
  done : List Row
  b : Int
  f : Int
  st : Option Int
  la : Int
def stp (s : S) (m v : Int) : S :=
  if s.st = none ∧ (v - s.la = 0 ∨ v - s.la = 1) then { s with st := some (v - s.la), la := v }
  else if s.st ≠ some (v - s.la) then ⟨s.done ++ [(s.b, s.f, decide (s.st = some 1))], m, v, none, v⟩
  else { s with la := v }
/-- minutes lo, lo + 1, .., n of them -/
def runV (val : Int → Int) : Int → Nat → S → S
  | _, 0, s => s
  | lo, n + 1, s => runV val (lo + 1) n (stp s lo (val lo))
def afterOf : List Row → Row → Int
  | [], r => r.1 + 3
  | n :: _, _ => n.1
/-- one row -/
def runR (r : Row) (after : Int) (s : S) : S :=
  let lo := if r.1 ≥ 1 then r.1 else 1
  let hi := if after ≤ r.1 + 3 then after else r.1 + 3
  { runV (rv r) lo (hi - lo).toNat s with la := rv r (after - 1) }
def runRs : List Row → S → S
  | [], s => s
  | r :: rs, s => runRs rs (runR r (afterOf rs r) s)
def fin (s : S) : List Row := s.done ++ [(s.b, s.f, true)]
def short : List Row → List Row
  | [] => []
  | r :: rs => fin (runRs (r :: rs) ⟨[], 0, r.2.1, none, r.2.1⟩)
theorem stp_len (s : S) (m v : Int) : (stp s m v).done.length ≤ s.done.length + 1 := by
  unfold stp
  split
  · simp
  · split <;> simp
theorem runV_len {val : Int → Int} : ∀ (n : Nat) (lo : Int) (s : S), (runV val lo n s).done.length ≤ s.done.length + n
  | 0, _, _ => Nat.le_refl _
  | n + 1, lo, s => by
    have h1 := runV_len n (lo + 1) (stp s lo (val lo)) (val := val)
    have h2 := stp_len s lo (val lo)
    unfold runV
    omega
theorem runR_len (r : Row) (after : Int) (s : S) : (runR r after s).done.length ≤ s.done.length + 3 := by
  unfold runR
  simp only
  refine Nat.le_trans (runV_len _ _ _) ?_
  split <;> split <;> omega
/-- may stand behind -/
def fol (b r : Row) : Prop := b.1 < r.1 ∧ r.1 - 1 ≤ rv b (r.1 - 1) ∧ rv b (r.1 - 1) ≤ r.2.1
instance (b r : Row) : Decidable (fol b r) := by unfold fol; infer_instance
/-- right rows behind the row b -/
def GoodFrom : Row → List Row → Prop
  | b, [] => b.2.2 = true
  | b, r :: rs => fol b r ∧ r.1 ≤ r.2.1 ∧ GoodFrom r rs
def Good : List Row → Prop
  | [] => False
  | r :: rs => r.1 = 0 ∧ 0 ≤ r.2.1 ∧ GoodFrom r rs
/-- the value behind the row b -/
def valF : Row → List Row → Int → Int
  | b, [], t => rv b t
  | b, r :: rs, t => if t < r.1 then rv b t else valF r rs t
def val : List Row → Int → Int
  | [], t => t
  | r :: rs, t => valF r rs t
end RM

set_option maxHeartbeats 4000000
/-! xs[i::-1] -/
namespace ML
open PySem PySem.Spec PyProof.Rows L2
def revFrom (n : Nat) (v : Int) : Nat := (max (-1) (min (if v < 0 then v + n else v) ((n : Int) - 1)) + 1).toNat
theorem pick_rev (items : Array Value) (v : Int) : slicePick items (some v) none (some (-1)) = (items.toList.take (revFrom items.size v)).reverse.toArray := by
  unfold slicePick
  have hb : sliceBounds (some v) none (some (-1)) items.size = (((revFrom items.size v : Nat) : Int) - 1, -1, -1) := by
    unfold sliceBounds revFrom
    simp
    omega
  rw [hb]
  show ((sliceRange (((revFrom items.size v : Nat) : Int) - 1) (-1) (-1)).filterMap (items[·]?)).toArray = _
  rw [PySem.W.krv_sliceRange, PySem.W.krv_range, List.filterMap_reverse]
  have h := pick_run items 0 (revFrom items.size v)
  have e : (List.range (revFrom items.size v)).map (0 + ·) = List.range (revFrom items.size v) := by
    rw [show ((0 + ·) : Nat → Nat) = id from funext fun k => Nat.zero_add k, List.map_id]
  rw [e, List.drop_zero] at h
  rw [h]
def tRevF (K : PySem.W.Frag) (te : TE) (tl : TO) : TE := fun σ H Q => te σ H fun x H1 => ∃ a, x = .ref a ∧ tl σ H1 fun l H2 => ∃ v xs, l = some v ∧ SqL K H2 a xs ∧ ∀ p, H2 p = none → Q (.ref p) (upd H2 p (.lst (xs.take (revFrom xs.length v)).reverse))
theorem pe_revF {X : Cx} {e lo : Expr} {te : TE} {tl : TO} {k : Nat} {p1 p2 p3 pos : Pos} (he : PE X e te) (hl : PO X (some lo) tl)
    (hops : subscriptTail e (.Slice (some lo) none (some (.UnaryOp .USub (.Constant (.int 1) k p1) p2)) p3) = subscriptTail e (.Slice none none (some (.UnaryOp .USub (.Constant (.int 1) k p1) p2)) p3)) : PE X (.Subscript e (.Slice (some lo) none (some (.UnaryOp .USub (.Constant (.int 1) k p1) p2)) p3) pos) (tRevF X.K te tl) := by
  refine ⟨fun pins s σ H Q I h => ?_⟩
  refine Subscript_ (thn (he.run pins s σ H _ I h) fun v s1 ⟨x, H1, I1, r1, q1⟩ => ?_)
  obtain ⟨a, ex, q⟩ := q1
  subst ex
  cases r1
  have hst : PO X (some (.UnaryOp .USub (.Constant (.int 1) k p1) p2)) (tPart (tUn (rU fun i => .int (-i)) (tC (.int 1)))) := po_some (pe_un un_neg pe_int)
  refine wpAny_Slice (thn (hl.run pins s1 σ H1 _ I1 q) fun vl s2 ⟨l, H2, I2, pl, z⟩ => ?_)
  obtain ⟨lv, xs, el, hx, q⟩ := z
  subst el
  refine thn (po_none.run pins s2 σ H2 (fun o H3 => o = none ∧ H3 = H2) I2 ⟨rfl, rfl⟩) fun vu s3 ⟨u, H3, I3, pu, eu, e3⟩ => ?_
  subst eu e3
  refine thn (hst.run pins s3 σ H3 (fun o H4 => o = some (-1) ∧ H4 = H3) I3 ⟨1, rfl, -1, rfl, rfl, rfl⟩) fun vs s4 ⟨o, H4, I4, ps, eo, e4⟩ => ?_
  subst eo e4
  have I5 : Inv X pins σ H4 { s4 with heap := s4.heap.push { cls := .type "slice", data := .fields #[vl, vu, vs] } } := I4.kept (t' := s4.toks) fun b ob q => Heap.get?_push_of_some _ q
  obtain ⟨its, r, ht, hz⟩ := I5.list hx
  have hlen := r.length
  show wpAny (model X.prog X.w) X.A (subscriptTail e (.Slice (some lo) none (some (.UnaryOp .USub (.Constant (.int 1) k p1) p2)) p3) (.ref a) (.ref s4.heap.objs.size)) (EP X pins σ Q) X.xe { s4 with heap := s4.heap.push { cls := .type "slice", data := .fields #[vl, vu, vs] } }
  rw [hops]
  refine tail_any (ops := [.ref a, .ref s4.heap.objs.size]) ht.isList.typeIs (PySem.slot_list_getitem.lookup) ?_ (by with_unfolding_all rfl)
  refine wpAny_getItem_list_slice ht.isList (Heap.IsSliceOf.new _ vl vu vs) pl pu ps (by decide) ?_ (by rw [List.size_toArray]; omega)
  rw [pick_rev]
  have hsz : its.toArray.size = xs.length := by simp [hlen]
  rw [hsz]
  refine ⟨.ref _, _, I5.laid (t' := s4.toks) (o := .lst (xs.take (revFrom xs.length lv)).reverse) (fun b ob q => Heap.get?_push_of_some _ q) (Nat.le_refl _) ?_, rfl, q _ (I5.hok.fresh (Nat.le_refl _))⟩
  exact ⟨by rw [List.length_reverse, List.length_take]; omega, _, 0, (r.take _).reverse, Heap.get?_push_size _ rfl⟩
section
variable {G : Gm} {Wx : WX}
def mRevF (e : ME) (lo : MO) : ME := fun ρ h => bnd (e ρ h) fun w h1 => match w with
  | .ref i => bnd (lo ρ h1) fun l h2 => match l with
    | some v => match rd h2 i with
      | some ws => some (.ok (.ref h2.length) (h2 ++ [.lst (ws.take (revFrom ws.length v)).reverse]))
      | none => none
    | none => none
  | _ => none
theorem w_revF {e : ME} {lo : MO} : ∀ σ H Q, tE G Wx (mRevF e lo) σ H Q → tRevF G.K (tE G Wx e) (tO G Wx lo) σ H Q := fun σ H Q ⟨μ, ρ, h, s, p⟩ =>
  ⟨μ, ρ, h, s, (Post.bnd p).mono fun μ1 h1 H1 wx g q x rx => by
    cases wx with
    | ref i =>
      simp only [RU] at rx
      obtain ⟨hi, rfl⟩ := rx
      simp only at q
      refine ⟨_, rfl, μ1, ρ, h1, s.on g, (Post.bnd q).mono fun μ2 h2 H2 l g2 q2 => ?_⟩
      split at q2
      · rename_i v
        split at q2
        · rename_i ws er
          obtain ⟨xs, sq, rs⟩ := rd_ok g2.rel er
          rw [g2.mu i hi] at sq
          refine ⟨v, xs, rfl, sq, fun p np => ?_⟩
          rw [RUs.length rs]
          have gD := Gr.new (o := .lst (xs.take (revFrom ws.length v)).reverse) (c := .lst (ws.take (revFrom ws.length v)).reverse) g2.rel np ⟨_, upd_same, RUs.mono (fun i hi => nu_old hi) (Nat.le_succ _) (TS0.fresh np) _ _ (RUs.take _ rs).reverse⟩
          refine q2 _ _ gD _ ?_
          simp only [RU]
          exact ⟨by simp, by rw [nu_new]⟩
        · exact False.elim q2
      · exact False.elim q2
    | _ => exact False.elim q⟩
end
section
variable {X : Cx} {G : Gm} {Wx : WX} {e lo : Expr} {ma : ME} {ml : MO} {k : Nat} {p1 p2 p3 pos : Pos}
theorem dRevF (hG : X.K = G.K) (he : PE X e (tE G Wx ma)) (hl : PO X (some lo) (tO G Wx ml)) (hops : subscriptTail e (.Slice (some lo) none (some (.UnaryOp .USub (.Constant (.int 1) k p1) p2)) p3) = subscriptTail e (.Slice none none (some (.UnaryOp .USub (.Constant (.int 1) k p1) p2)) p3)) : PE X (.Subscript e (.Slice (some lo) none (some (.UnaryOp .USub (.Constant (.int 1) k p1) p2)) p3) pos) (tE G Wx (mRevF ma ml)) := by
  have r := pe_revF (k := k) (p1 := p1) (p2 := p2) (p3 := p3) (pos := pos) he hl hops
  rw [hG] at r
  exact r.weak w_revF
end
end ML

set_option maxHeartbeats 4000000
namespace K14
open PySem L2 ML
def topS (i : Nat) : Stmt := PySem.Challenge.pw_laterways_k14_meetings.main.body.getD i (.Pass ⟨0, 0, 0, 0⟩)
def tk_CalendarError : Nat → Option Bool := fun c => if c = 1 then some true else if c = 2 then some true else none
def tk_BadName : Nat → Option Bool := fun c => if c = 1 then some true else if c = 2 then some false else none
def tk_BadNumber : Nat → Option Bool := fun c => if c = 1 then some false else if c = 2 then some true else none
def at_latest_i : Nat → Bool := fun c => decide (c = 3)
def at_latest_e : Nat → Bool := fun _ => false
def at_length_i : Nat → Bool := fun c => decide (c = 3)
def at_length_e : Nat → Bool := fun _ => false
def at_name_i : Nat → Bool := fun c => decide (c = 3)
def at_name_e : Nat → Bool := fun c => decide (c = 1)
def at_opens_i : Nat → Bool := fun c => decide (c = 3)
def at_opens_e : Nat → Bool := fun _ => false
def at_place_i : Nat → Bool := fun c => decide (c = 3)
def at_place_e : Nat → Bool := fun _ => false
def at_value_i : Nat → Bool := fun _ => false
def at_value_e : Nat → Bool := fun c => decide (c = 2)
def at_what_i : Nat → Bool := fun _ => false
def at_what_e : Nat → Bool := fun c => decide (c = 2)
def tab_Meeting : TyK → Option Bool := tabI 3
abbrev n_CalendarError : Nat := 0
abbrev n_BadName : Nat := 1
abbrev n_BadNumber : Nat := 2
abbrev n_Meeting : Nat := 3
def nf_Meeting : Nat → Bool := fun c => decide (c = 3)
structure Fx (G : Gm) (mg : Str → Option Value) : Prop where
  b_abs : mg "abs" = none
  b_all : mg "all" = none
  b_bool : mg "bool" = none
  b_int : mg "int" = none
  b_isinstance : mg "isinstance" = none
  b_len : mg "len" = none
  b_max : mg "max" = none
  b_min : mg "min" = none
  b_range : mg "range" = none
  b_str : mg "str" = none
  c_LAST_MINUTE : GlI mg "LAST_MINUTE" 2880
  c_LETTERS : GlS mg "LETTERS" "abcdefghijklmnopqrstuvwxyz"
  c_LONGEST_MEETING : GlI mg "LONGEST_MEETING" 600
  a_latest : AtX G "latest" at_latest_i at_latest_e
  a_length : AtX G "length" at_length_i at_length_e
  a_name : AtX G "name" at_name_i at_name_e
  a_opens : AtX G "opens" at_opens_i at_opens_e
  a_place : AtX G "place" at_place_i at_place_e
  a_value : AtX G "value" at_value_i at_value_e
  a_what : AtX G "what" at_what_i at_what_e
  s_latest : AtC G "latest" at_latest_i
  s_length : AtC G "length" at_length_i
  s_name : AtC G "name" at_name_i
  s_opens : AtC G "opens" at_opens_i
  s_place : AtC G "place" at_place_i
  o_Meeting : OwnK G mg "Meeting" tab_Meeting
  t_CalendarError : TakC G tk_CalendarError (.ref (G.ca 0))
  g_CalendarError : mg "CalendarError" = some (.ref (G.ca 0))
  t_BadName : TakC G tk_BadName (.ref (G.ca 1))
  g_BadName : mg "BadName" = some (.ref (G.ca 1))
  t_BadNumber : TakC G tk_BadNumber (.ref (G.ca 2))
  g_BadNumber : mg "BadNumber" = some (.ref (G.ca 2))
section
variable {P : Program} {w : World} {G : Gm} {mg : Str → Option Value} {base : Heap} {f : Addr} {fd : FuncData}
abbrev t_is_name : Stmt := topS 6
theorem sc_is_name : FnScope ["text", "letter"] ["text"] (defScope t_is_name) := ⟨rfl, rfl, rfl, by decide +kernel, rfl, by decide +kernel, by decide +kernel⟩
noncomputable def b_is_name : MS :=
    (mSeq (mIf (mTNot (mB (mIsi tabStr (mVar 0))))
    (mRet (mC (.bl false)))
    mSkip)
    (mRet (mAnd (mChain oLe oLe (mC (.int 1)) (mCB fLen (mCons (mVar 0) mNil)) (mC (.int 8))) (mCB (fAll false) (mCons (mLc (iSeq (mVar 0)) (NT.one 1) mYes (mOp (oInA false) (mVar 1) (mC (.str ("abcdefghijklmnopqrstuvwxyz" : Str)))) ([(("letter" : Str), 1)].map (·.2))) mNil)))))
noncomputable def m_is_name : MF := mfun 1 2 b_is_name
theorem ok_is_name (fx : Fx G mg) (F : Fun G.K "is_name" "is_name" t_is_name f fd) : FnM P w G mg base 1 f fd ["text"] m_is_name :=
  fn_M (k := 0) F sc_is_name fun cdv A outer s H E hr tk => by
  exact (dSeq (dIf (qNot (qVal (dIsi rfl (isaTy isiStr (by kernel_rfl) fx.b_str (by kernel_rfl) (by decide +kernel) (by kernel_rfl)) (dVar 0 (by kernel_rfl) (by kernel_rfl) (by kernel_rfl) (by kernel_rfl)) fx.b_isinstance (by kernel_rfl) ⟨(by kernel_rfl), (by kernel_rfl)⟩ (by kernel_rfl)) (fun _ => rfl)))
    (dOne (dRet dBl))
    dSkip)
    (dOne (dRet (dAnd (dLeLe dInt (dB (cLen rfl) fLen_ok fx.b_len (by kernel_rfl) (by kernel_rfl) (dCons (dVar 0 (by kernel_rfl) (by kernel_rfl) (by kernel_rfl) (by kernel_rfl)) dNil (by kernel_rfl)) (by decide +kernel) (by kernel_rfl) ⟨(by kernel_rfl), (by kernel_rfl)⟩) dInt (by kernel_rfl)) (dAnd1 (dB (cAll rfl rfl) fAll_ok fx.b_all (by kernel_rfl) (by kernel_rfl) (dCons (dLc (own := [(("letter" : Str), 1)]) (NT.one 1) rfl rfl sc_is_name.nd (iSeq' rfl (dVar 0 (by kernel_rfl) (by kernel_rfl) (by kernel_rfl) (by kernel_rfl))) (blkOk_by (N := ["text", "letter"]) (sc := defScope t_is_name) (by decide +kernel)) (fun _ _ _ _ _ => ntOne sc_is_name.nd (by kernel_rfl) (by kernel_rfl) (Or.inr (by kernel_rfl))) (fun _ _ _ _ _ => dYes) (fun _ _ _ _ _ => (dIn rfl (dVar 1 (by kernel_rfl) (by kernel_rfl) (by kernel_rfl) (by kernel_rfl)) (dGlS fx.c_LETTERS (by kernel_rfl) (by kernel_rfl)) (by kernel_rfl))) (by decide +kernel) (fun _ => rfl)) dNil (by kernel_rfl)) (by decide +kernel) (by kernel_rfl) ⟨(by kernel_rfl), (by kernel_rfl)⟩))))))
abbrev t_check_name : Stmt := topS 7
theorem sc_check_name : FnScope ["text"] ["text"] (defScope t_check_name) := ⟨rfl, rfl, rfl, by decide +kernel, rfl, by decide +kernel, by decide +kernel⟩
noncomputable def b_check_name : MS :=
    (mSeq (mIf (mTNot (mB (mCB m_is_name (mCons (mVar 0) mNil))))
    (mRaise 1 (mk1 ("name" : Str)) (mCons (mVar 0) mNil))
    mSkip)
    (mRet (mVar 0)))
noncomputable def m_check_name : MF := mfun 1 1 b_check_name
theorem ok_check_name (fx : Fx G mg) (c_is_name : Callee P w G mg base "is_name" 1 ["text"] m_is_name) (e_BadName : OwnErr P w G mg base "BadName" 1 1 1 (mk1 ("name" : Str))) (F : Fun G.K "check_name" "check_name" t_check_name f fd) : FnM P w G mg base 3 f fd ["text"] m_check_name :=
  fn_M (k := 2) F sc_check_name fun cdv A outer s H E hr tk => by
  exact (dSeq (dIf (qNot (qVal (dCall (n := 1) rfl c_is_name hr (by decide) tk rfl (dCons (dVar 0 (by kernel_rfl) (by kernel_rfl) (by kernel_rfl) (by kernel_rfl)) dNil (by kernel_rfl)) (al_cons al_nil) (by kernel_rfl) (by kernel_rfl) ⟨(by kernel_rfl), (by kernel_rfl)⟩) (fun _ => rfl)))
    (dOne (dRaise (n := 1) rfl e_BadName hr (by decide) tk rfl (dCons (dVar 0 (by kernel_rfl) (by kernel_rfl) (by kernel_rfl) (by kernel_rfl)) dNil (by kernel_rfl)) (al_cons al_nil) (by decide) (by kernel_rfl) (by kernel_rfl) ⟨(by kernel_rfl), (by kernel_rfl)⟩))
    dSkip)
    (dOne (dRet (dVar 0 (by kernel_rfl) (by kernel_rfl) (by kernel_rfl) (by kernel_rfl)))))
abbrev t_is_integer : Stmt := topS 8
theorem sc_is_integer : FnScope ["value"] ["value"] (defScope t_is_integer) := ⟨rfl, rfl, rfl, by decide +kernel, rfl, by decide +kernel, by decide +kernel⟩
noncomputable def b_is_integer : MS :=
    (mRet (mAnd (mIsi tabInt (mVar 0)) (mNot (mIsi tabBool (mVar 0)))))
noncomputable def m_is_integer : MF := mfun 1 1 b_is_integer
theorem ok_is_integer (fx : Fx G mg) (F : Fun G.K "is_integer" "is_integer" t_is_integer f fd) : FnM P w G mg base 1 f fd ["value"] m_is_integer :=
  fn_M (k := 0) F sc_is_integer fun cdv A outer s H E hr tk => by
  exact (dOne (dRet (dAnd (dIsi rfl (isaTy isiInt (by kernel_rfl) fx.b_int (by kernel_rfl) (by decide +kernel) (by kernel_rfl)) (dVar 0 (by kernel_rfl) (by kernel_rfl) (by kernel_rfl) (by kernel_rfl)) fx.b_isinstance (by kernel_rfl) ⟨(by kernel_rfl), (by kernel_rfl)⟩ (by kernel_rfl)) (dAnd1 (dNot (dIsi rfl (isaTy isiBool (by kernel_rfl) fx.b_bool (by kernel_rfl) (by decide +kernel) (by kernel_rfl)) (dVar 0 (by kernel_rfl) (by kernel_rfl) (by kernel_rfl) (by kernel_rfl)) fx.b_isinstance (by kernel_rfl) ⟨(by kernel_rfl), (by kernel_rfl)⟩ (by kernel_rfl)))))))
abbrev t_check_integer : Stmt := topS 9
theorem sc_check_integer : FnScope ["what", "value"] ["what", "value"] (defScope t_check_integer) := ⟨rfl, rfl, rfl, by decide +kernel, rfl, by decide +kernel, by decide +kernel⟩
noncomputable def b_check_integer : MS :=
    (mSeq (mIf (mTNot (mB (mCB m_is_integer (mCons (mVar 1) mNil))))
    (mRaise 2 (mk2s ("what" : Str) ("value" : Str)) (mCons (mVar 0) (mCons (mVar 1) mNil)))
    mSkip)
    (mRet (mVar 1)))
noncomputable def m_check_integer : MF := mfun 2 2 b_check_integer
theorem ok_check_integer (fx : Fx G mg) (c_is_integer : Callee P w G mg base "is_integer" 1 ["value"] m_is_integer) (e_BadNumber : OwnErr P w G mg base "BadNumber" 1 2 2 (mk2s ("what" : Str) ("value" : Str))) (F : Fun G.K "check_integer" "check_integer" t_check_integer f fd) : FnM P w G mg base 3 f fd ["what", "value"] m_check_integer :=
  fn_M (k := 2) F sc_check_integer fun cdv A outer s H E hr tk => by
  exact (dSeq (dIf (qNot (qVal (dCall (n := 1) rfl c_is_integer hr (by decide) tk rfl (dCons (dVar 1 (by kernel_rfl) (by kernel_rfl) (by kernel_rfl) (by kernel_rfl)) dNil (by kernel_rfl)) (al_cons al_nil) (by kernel_rfl) (by kernel_rfl) ⟨(by kernel_rfl), (by kernel_rfl)⟩) (fun _ => rfl)))
    (dOne (dRaise (n := 2) rfl e_BadNumber hr (by decide) tk rfl (dCons (dVar 0 (by kernel_rfl) (by kernel_rfl) (by kernel_rfl) (by kernel_rfl)) (dCons (dVar 1 (by kernel_rfl) (by kernel_rfl) (by kernel_rfl) (by kernel_rfl)) dNil (by kernel_rfl)) (by kernel_rfl)) (al_cons (al_cons al_nil)) (by decide) (by kernel_rfl) (by kernel_rfl) ⟨(by kernel_rfl), (by kernel_rfl)⟩))
    dSkip)
    (dOne (dRet (dVar 1 (by kernel_rfl) (by kernel_rfl) (by kernel_rfl) (by kernel_rfl)))))
abbrev t_check_number : Stmt := topS 10
theorem sc_check_number : FnScope ["what", "value", "low", "high"] ["what", "value", "low", "high"] (defScope t_check_number) := ⟨rfl, rfl, rfl, by decide +kernel, rfl, by decide +kernel, by decide +kernel⟩
noncomputable def b_check_number : MS :=
    (mSeq (mDrop (mCB m_check_integer (mCons (mVar 0) (mCons (mVar 1) mNil))))
    (mSeq (mIf (mTOr (mB (mOp oLt (mVar 1) (mVar 2))) (mTAnd (mB (mIsN true (mVar 3))) (mB (mOp oGt (mVar 1) (mVar 3)))))
    (mRaise 2 (mk2s ("what" : Str) ("value" : Str)) (mCons (mVar 0) (mCons (mVar 1) mNil)))
    mSkip)
    (mRet (mVar 1))))
noncomputable def m_check_number : MF := mfun 4 4 b_check_number
theorem ok_check_number (fx : Fx G mg) (c_check_integer : Callee P w G mg base "check_integer" 3 ["what", "value"] m_check_integer) (e_BadNumber : OwnErr P w G mg base "BadNumber" 1 2 2 (mk2s ("what" : Str) ("value" : Str))) (F : Fun G.K "check_number" "check_number" t_check_number f fd) : FnM P w G mg base 4 f fd ["what", "value", "low", "high"] m_check_number :=
  fn_M (k := 3) F sc_check_number fun cdv A outer s H E hr tk => by
  exact (dSeq (dExpr (dCall (n := 2) rfl c_check_integer hr (by decide) tk rfl (dCons (dVar 0 (by kernel_rfl) (by kernel_rfl) (by kernel_rfl) (by kernel_rfl)) (dCons (dVar 1 (by kernel_rfl) (by kernel_rfl) (by kernel_rfl) (by kernel_rfl)) dNil (by kernel_rfl)) (by kernel_rfl)) (al_cons (al_cons al_nil)) (by kernel_rfl) (by kernel_rfl) ⟨(by kernel_rfl), (by kernel_rfl)⟩) (by kernel_rfl))
    (dSeq (dIf (qOr' (qLt (dVar 1 (by kernel_rfl) (by kernel_rfl) (by kernel_rfl) (by kernel_rfl)) (dVar 2 (by kernel_rfl) (by kernel_rfl) (by kernel_rfl) (by kernel_rfl))) (qOr1 (qAnd' (qNotN (dVar 3 (by kernel_rfl) (by kernel_rfl) (by kernel_rfl) (by kernel_rfl))) (qAnd1 (qGt (dVar 1 (by kernel_rfl) (by kernel_rfl) (by kernel_rfl) (by kernel_rfl)) (dVar 3 (by kernel_rfl) (by kernel_rfl) (by kernel_rfl) (by kernel_rfl)))))))
    (dOne (dRaise (n := 2) rfl e_BadNumber hr (by decide) tk rfl (dCons (dVar 0 (by kernel_rfl) (by kernel_rfl) (by kernel_rfl) (by kernel_rfl)) (dCons (dVar 1 (by kernel_rfl) (by kernel_rfl) (by kernel_rfl) (by kernel_rfl)) dNil (by kernel_rfl)) (by kernel_rfl)) (al_cons (al_cons al_nil)) (by decide) (by kernel_rfl) (by kernel_rfl) ⟨(by kernel_rfl), (by kernel_rfl)⟩))
    dSkip)
    (dOne (dRet (dVar 1 (by kernel_rfl) (by kernel_rfl) (by kernel_rfl) (by kernel_rfl))))))
abbrev t_check_times : Stmt := topS 14
theorem sc_check_times : FnScope ["opens", "latest", "length"] ["opens", "latest", "length"] (defScope t_check_times) := ⟨rfl, rfl, rfl, by decide +kernel, rfl, by decide +kernel, by decide +kernel⟩
noncomputable def b_check_times : MS :=
    (mSeq (mDrop (mCB m_check_number (mCons (mC (.str ("opens" : Str))) (mCons (mVar 0) (mCons (mC (.int 0)) (mCons (mC (.int 2880)) mNil))))))
    (mSeq (mDrop (mCB m_check_number (mCons (mC (.str ("latest" : Str))) (mCons (mVar 1) (mCons (mVar 0) (mCons (mC (.int 2880)) mNil))))))
    (mDrop (mCB m_check_number (mCons (mC (.str ("length" : Str))) (mCons (mVar 2) (mCons (mC (.int 0)) (mCons (mC (.int 600)) mNil))))))))
noncomputable def m_check_times : MF := mfun 3 3 b_check_times
theorem ok_check_times (fx : Fx G mg) (c_check_number : Callee P w G mg base "check_number" 4 ["what", "value", "low", "high"] m_check_number) (F : Fun G.K "check_times" "check_times" t_check_times f fd) : FnM P w G mg base 5 f fd ["opens", "latest", "length"] m_check_times :=
  fn_M (k := 4) F sc_check_times fun cdv A outer s H E hr tk => by
  exact (dSeq (dExpr (dCall (n := 4) rfl c_check_number hr (by decide) tk rfl (dCons dStr (dCons (dVar 0 (by kernel_rfl) (by kernel_rfl) (by kernel_rfl) (by kernel_rfl)) (dCons dInt (dCons (dGlI fx.c_LAST_MINUTE (by kernel_rfl) (by kernel_rfl)) dNil (by kernel_rfl)) (by kernel_rfl)) (by kernel_rfl)) (by kernel_rfl)) (al_cons (al_cons (al_cons (al_cons al_nil)))) (by kernel_rfl) (by kernel_rfl) ⟨(by kernel_rfl), (by kernel_rfl)⟩) (by kernel_rfl))
    (dSeq (dExpr (dCall (n := 4) rfl c_check_number hr (by decide) tk rfl (dCons dStr (dCons (dVar 1 (by kernel_rfl) (by kernel_rfl) (by kernel_rfl) (by kernel_rfl)) (dCons (dVar 0 (by kernel_rfl) (by kernel_rfl) (by kernel_rfl) (by kernel_rfl)) (dCons (dGlI fx.c_LAST_MINUTE (by kernel_rfl) (by kernel_rfl)) dNil (by kernel_rfl)) (by kernel_rfl)) (by kernel_rfl)) (by kernel_rfl)) (al_cons (al_cons (al_cons (al_cons al_nil)))) (by kernel_rfl) (by kernel_rfl) ⟨(by kernel_rfl), (by kernel_rfl)⟩) (by kernel_rfl))
    (dOne (dExpr (dCall (n := 4) rfl c_check_number hr (by decide) tk rfl (dCons dStr (dCons (dVar 2 (by kernel_rfl) (by kernel_rfl) (by kernel_rfl) (by kernel_rfl)) (dCons dInt (dCons (dGlI fx.c_LONGEST_MEETING (by kernel_rfl) (by kernel_rfl)) dNil (by kernel_rfl)) (by kernel_rfl)) (by kernel_rfl)) (by kernel_rfl)) (al_cons (al_cons (al_cons (al_cons al_nil)))) (by kernel_rfl) (by kernel_rfl) ⟨(by kernel_rfl), (by kernel_rfl)⟩) (by kernel_rfl)))))
abbrev t_Meeting___init__ : Stmt := inClass (topS 15) 0
theorem sc_Meeting___init__ : FnScope ["self", "name", "place", "opens", "latest", "length"] ["self", "name", "place", "opens", "latest", "length"] (defScope t_Meeting___init__) := ⟨rfl, rfl, rfl, by decide +kernel, rfl, by decide +kernel, by decide +kernel⟩
noncomputable def b_Meeting___init__ : MS :=
    (mSeq (mSetAt ("name" : Str) at_name_i (mVar 0) (mCB m_check_name (mCons (mVar 1) mNil)))
    (mSeq (mSetAt ("place" : Str) at_place_i (mVar 0) (mCB m_check_name (mCons (mVar 2) mNil)))
    (mSeq (mDrop (mCB m_check_times (mCons (mVar 3) (mCons (mVar 4) (mCons (mVar 5) mNil)))))
    (mSeq (mSetAt ("opens" : Str) at_opens_i (mVar 0) (mVar 3))
    (mSeq (mSetAt ("latest" : Str) at_latest_i (mVar 0) (mVar 4))
    (mSetAt ("length" : Str) at_length_i (mVar 0) (mVar 5)))))))
noncomputable def m_Meeting___init__ : MF := mfun 6 6 b_Meeting___init__
theorem ok_Meeting___init__ (fx : Fx G mg) (c_check_name : Callee P w G mg base "check_name" 3 ["text"] m_check_name) (c_check_times : Callee P w G mg base "check_times" 5 ["opens", "latest", "length"] m_check_times) (F : Fun G.K "__init__" "Meeting.__init__" t_Meeting___init__ f fd) : FnM P w G mg base 6 f fd ["self", "name", "place", "opens", "latest", "length"] m_Meeting___init__ :=
  fn_M (k := 5) F sc_Meeting___init__ fun cdv A outer s H E hr tk => by
  exact (dSeq (dSetAt rfl fx.s_name (dCall (n := 1) rfl c_check_name hr (by decide) tk rfl (dCons (dVar 1 (by kernel_rfl) (by kernel_rfl) (by kernel_rfl) (by kernel_rfl)) dNil (by kernel_rfl)) (al_cons al_nil) (by kernel_rfl) (by kernel_rfl) ⟨(by kernel_rfl), (by kernel_rfl)⟩) (dVar 0 (by kernel_rfl) (by kernel_rfl) (by kernel_rfl) (by kernel_rfl)) (by kernel_rfl))
    (dSeq (dSetAt rfl fx.s_place (dCall (n := 1) rfl c_check_name hr (by decide) tk rfl (dCons (dVar 2 (by kernel_rfl) (by kernel_rfl) (by kernel_rfl) (by kernel_rfl)) dNil (by kernel_rfl)) (al_cons al_nil) (by kernel_rfl) (by kernel_rfl) ⟨(by kernel_rfl), (by kernel_rfl)⟩) (dVar 0 (by kernel_rfl) (by kernel_rfl) (by kernel_rfl) (by kernel_rfl)) (by kernel_rfl))
    (dSeq (dExpr (dCall (n := 3) rfl c_check_times hr (by decide) tk rfl (dCons (dVar 3 (by kernel_rfl) (by kernel_rfl) (by kernel_rfl) (by kernel_rfl)) (dCons (dVar 4 (by kernel_rfl) (by kernel_rfl) (by kernel_rfl) (by kernel_rfl)) (dCons (dVar 5 (by kernel_rfl) (by kernel_rfl) (by kernel_rfl) (by kernel_rfl)) dNil (by kernel_rfl)) (by kernel_rfl)) (by kernel_rfl)) (al_cons (al_cons (al_cons al_nil))) (by kernel_rfl) (by kernel_rfl) ⟨(by kernel_rfl), (by kernel_rfl)⟩) (by kernel_rfl))
    (dSeq (dSetAt rfl fx.s_opens (dVar 3 (by kernel_rfl) (by kernel_rfl) (by kernel_rfl) (by kernel_rfl)) (dVar 0 (by kernel_rfl) (by kernel_rfl) (by kernel_rfl) (by kernel_rfl)) (by kernel_rfl))
    (dSeq (dSetAt rfl fx.s_latest (dVar 4 (by kernel_rfl) (by kernel_rfl) (by kernel_rfl) (by kernel_rfl)) (dVar 0 (by kernel_rfl) (by kernel_rfl) (by kernel_rfl) (by kernel_rfl)) (by kernel_rfl))
    (dOne (dSetAt rfl fx.s_length (dVar 5 (by kernel_rfl) (by kernel_rfl) (by kernel_rfl) (by kernel_rfl)) (dVar 0 (by kernel_rfl) (by kernel_rfl) (by kernel_rfl) (by kernel_rfl)) (by kernel_rfl))))))))
abbrev t_Meeting___eq__ : Stmt := inClass (topS 15) 1
theorem sc_Meeting___eq__ : FnScope ["self", "other"] ["self", "other"] (defScope t_Meeting___eq__) := ⟨rfl, rfl, rfl, by decide +kernel, rfl, by decide +kernel, by decide +kernel⟩
noncomputable def b_Meeting___eq__ : MS :=
    (mRet (mAnd (mIsi tab_Meeting (mVar 1)) (mAnd (mOp (oEq 3) (mAttrX ("name" : Str) at_name_i at_name_e (mVar 0)) (mAttrX ("name" : Str) at_name_i at_name_e (mVar 1))) (mAnd (mOp (oEq 3) (mAttrX ("place" : Str) at_place_i at_place_e (mVar 0)) (mAttrX ("place" : Str) at_place_i at_place_e (mVar 1))) (mAnd (mOp (oEq 3) (mAttrX ("opens" : Str) at_opens_i at_opens_e (mVar 0)) (mAttrX ("opens" : Str) at_opens_i at_opens_e (mVar 1))) (mAnd (mOp (oEq 3) (mAttrX ("latest" : Str) at_latest_i at_latest_e (mVar 0)) (mAttrX ("latest" : Str) at_latest_i at_latest_e (mVar 1))) (mOp (oEq 3) (mAttrX ("length" : Str) at_length_i at_length_e (mVar 0)) (mAttrX ("length" : Str) at_length_i at_length_e (mVar 1)))))))))
noncomputable def m_Meeting___eq__ : MF := mfun 2 2 b_Meeting___eq__
theorem ok_Meeting___eq__ (fx : Fx G mg) (F : Fun G.K "__eq__" "Meeting.__eq__" t_Meeting___eq__ f fd) : FnM P w G mg base 1 f fd ["self", "other"] m_Meeting___eq__ :=
  fn_M (k := 0) F sc_Meeting___eq__ fun cdv A outer s H E hr tk => by
  exact (dOne (dRet (dAnd (dIsi rfl (isaOwn fx.o_Meeting (by kernel_rfl) (by kernel_rfl)) (dVar 1 (by kernel_rfl) (by kernel_rfl) (by kernel_rfl) (by kernel_rfl)) fx.b_isinstance (by kernel_rfl) ⟨(by kernel_rfl), (by kernel_rfl)⟩ (by kernel_rfl)) (dAnd (dEq 3 rfl (units64 hr) (dAttr rfl fx.a_name (dVar 0 (by kernel_rfl) (by kernel_rfl) (by kernel_rfl) (by kernel_rfl)) (by kernel_rfl)) (dAttr rfl fx.a_name (dVar 1 (by kernel_rfl) (by kernel_rfl) (by kernel_rfl) (by kernel_rfl)) (by kernel_rfl))) (dAnd (dEq 3 rfl (units64 hr) (dAttr rfl fx.a_place (dVar 0 (by kernel_rfl) (by kernel_rfl) (by kernel_rfl) (by kernel_rfl)) (by kernel_rfl)) (dAttr rfl fx.a_place (dVar 1 (by kernel_rfl) (by kernel_rfl) (by kernel_rfl) (by kernel_rfl)) (by kernel_rfl))) (dAnd (dEq 3 rfl (units64 hr) (dAttr rfl fx.a_opens (dVar 0 (by kernel_rfl) (by kernel_rfl) (by kernel_rfl) (by kernel_rfl)) (by kernel_rfl)) (dAttr rfl fx.a_opens (dVar 1 (by kernel_rfl) (by kernel_rfl) (by kernel_rfl) (by kernel_rfl)) (by kernel_rfl))) (dAnd (dEq 3 rfl (units64 hr) (dAttr rfl fx.a_latest (dVar 0 (by kernel_rfl) (by kernel_rfl) (by kernel_rfl) (by kernel_rfl)) (by kernel_rfl)) (dAttr rfl fx.a_latest (dVar 1 (by kernel_rfl) (by kernel_rfl) (by kernel_rfl) (by kernel_rfl)) (by kernel_rfl))) (dAnd1 (dEq 3 rfl (units64 hr) (dAttr rfl fx.a_length (dVar 0 (by kernel_rfl) (by kernel_rfl) (by kernel_rfl) (by kernel_rfl)) (by kernel_rfl)) (dAttr rfl fx.a_length (dVar 1 (by kernel_rfl) (by kernel_rfl) (by kernel_rfl) (by kernel_rfl)) (by kernel_rfl)))))))))))
abbrev t__law_start : Stmt := topS 17
theorem sc__law_start : FnScope ["_law_script", "_law_first"] ["_law_script"] (defScope t__law_start) := ⟨rfl, rfl, rfl, by decide +kernel, rfl, by decide +kernel, by decide +kernel⟩
noncomputable def b__law_start : MS :=
    (mSeq (mSet 1 (mC (.int 0)))
    (mSeq (mIf (mB (mOp oGt (mCB fLen (mCons (mVar 0) mNil)) (mC (.int 0))))
    (mSet 1 (mOp oIx (mVar 0) (mC (.int 0))))
    mSkip)
    (mRet (mLst (mCons (mCB fAbs (mCons (mCB fIntA2 (mCons (mVar 1) mNil)) mNil)) (mCons (mCB fIntA2 (mCons (mOp oGe (mCB fAbs (mCons (mCB fIntA2 (mCons (mVar 1) mNil)) mNil)) (mOp oPow (mC (.int 10)) (mC (.int 18)))) mNil)) (mCons (mC (.int 1)) (mCons (mC (.int 0)) mNil))))))))
noncomputable def m__law_start : MF := mfun 1 2 b__law_start
theorem ok__law_start (fx : Fx G mg) (F : Fun G.K "_law_start" "_law_start" t__law_start f fd) : FnM P w G mg base 1 f fd ["_law_script"] m__law_start :=
  fn_M (k := 0) F sc__law_start fun cdv A outer s H E hr tk => by
  exact (dSeq (dSet dInt sc__law_start.nd (by kernel_rfl) (by kernel_rfl) (by kernel_rfl) (Or.inl rfl))
    (dSeq (dIf (qGt (dB (cLen rfl) fLen_ok fx.b_len (by kernel_rfl) (by kernel_rfl) (dCons (dVar 0 (by kernel_rfl) (by kernel_rfl) (by kernel_rfl) (by kernel_rfl)) dNil (by kernel_rfl)) (by decide +kernel) (by kernel_rfl) ⟨(by kernel_rfl), (by kernel_rfl)⟩) dInt)
    (dOne (dSet (dIx rfl (dVar 0 (by kernel_rfl) (by kernel_rfl) (by kernel_rfl) (by kernel_rfl)) dInt (fun _ _ => rfl)) sc__law_start.nd (by kernel_rfl) (by kernel_rfl) (by kernel_rfl) (Or.inl rfl)))
    dSkip)
    (dOne (dRet (dLst (dCons (dB cAbs fAbs_ok fx.b_abs (by kernel_rfl) (by kernel_rfl) (dCons (dTy cInt fIntA_ok fx.b_int (by kernel_rfl) (by kernel_rfl) (dCons (dVar 1 (by kernel_rfl) (by kernel_rfl) (by kernel_rfl) (by kernel_rfl)) dNil (by kernel_rfl)) (by decide +kernel) (by kernel_rfl) ⟨(by kernel_rfl), (by kernel_rfl)⟩) dNil (by kernel_rfl)) (by decide +kernel) (by kernel_rfl) ⟨(by kernel_rfl), (by kernel_rfl)⟩) (dCons (dTy cInt fIntA_ok fx.b_int (by kernel_rfl) (by kernel_rfl) (dCons (dGe (dB cAbs fAbs_ok fx.b_abs (by kernel_rfl) (by kernel_rfl) (dCons (dTy cInt fIntA_ok fx.b_int (by kernel_rfl) (by kernel_rfl) (dCons (dVar 1 (by kernel_rfl) (by kernel_rfl) (by kernel_rfl) (by kernel_rfl)) dNil (by kernel_rfl)) (by decide +kernel) (by kernel_rfl) ⟨(by kernel_rfl), (by kernel_rfl)⟩) dNil (by kernel_rfl)) (by decide +kernel) (by kernel_rfl) ⟨(by kernel_rfl), (by kernel_rfl)⟩) (dPow dInt dInt)) dNil (by kernel_rfl)) (by decide +kernel) (by kernel_rfl) ⟨(by kernel_rfl), (by kernel_rfl)⟩) (dCons dInt (dCons dInt dNil (by kernel_rfl)) (by kernel_rfl)) (by kernel_rfl)) (by kernel_rfl)))))))
abbrev t__law_draw : Stmt := topS 18
theorem sc__law_draw : FnScope ["_law_script", "_law_state", "_law_limit", "_law_number", "_law_cell", "_law_mixed"] ["_law_script", "_law_state", "_law_limit"] (defScope t__law_draw) := ⟨rfl, rfl, rfl, by decide +kernel, rfl, by decide +kernel, by decide +kernel⟩
noncomputable def b__law_draw : MS :=
    (mSeq (mSetIx (mOp oAdd (mOp oIx (mVar 1) (mC (.int 3))) (mC (.int 1))) (mVar 1) (mC (.int 3)))
    (mSeq (mIf (mTAnd (mB (mOp (oEq 3) (mOp oIx (mVar 1) (mC (.int 1))) (mC (.int 1)))) (mB (mOp oGt (mOp oIx (mVar 1) (mC (.int 0))) (mC (.int 0)))))
    (mSeq (mSet 3 (mOp oMod (mCB fIntA2 (mCons (mOp oIx (mVar 1) (mC (.int 0))) mNil)) (mVar 2)))
    (mSeq (mSetIx (mOp oDiv (mOp oIx (mVar 1) (mC (.int 0))) (mVar 2)) (mVar 1) (mC (.int 0)))
    (mRet (mVar 3))))
    mSkip)
    (mSeq (mSetIx (mC (.int 0)) (mVar 1) (mC (.int 1)))
    (mSeq (mSet 4 (mC (.int 0)))
    (mSeq (mIf (mB (mOp oGt (mCB fLen (mCons (mVar 0) mNil)) (mC (.int 0))))
    (mSet 4 (mOp oIx (mVar 0) (mOp oMod (mCB fIntA2 (mCons (mOp oIx (mVar 1) (mC (.int 2))) mNil)) (mCB fLen (mCons (mVar 0) mNil)))))
    mSkip)
    (mSeq (mSetIx (mOp oAdd (mOp oIx (mVar 1) (mC (.int 2))) (mC (.int 1))) (mVar 1) (mC (.int 2)))
    (mSeq (mSet 5 (mOp oMulA (mOp oMod (mCB fIntA2 (mCons (mOp oIx (mVar 1) (mC (.int 0))) mNil)) (mC (.int 2147483647))) (mC (.int 48271))))
    (mSeq (mSet 5 (mOp oAdd (mOp oAdd (mOp oAdd (mVar 5) (mOp oMod (mCB fIntA2 (mCons (mVar 4) mNil)) (mC (.int 2147483629)))) (mOp oMulA (mC (.int 7)) (mOp oIx (mVar 1) (mC (.int 3))))) (mC (.int 11))))
    (mSeq (mSetIx (mOp oMod (mCB fIntA2 (mCons (mVar 5) mNil)) (mC (.int 2147483647))) (mVar 1) (mC (.int 0)))
    (mSeq (mSet 5 (mOp oMod (mCB fIntA2 (mCons (mOp oAdd (mOp oMulA (mOp oIx (mVar 1) (mC (.int 0))) (mC (.int 69621))) (mOp oIx (mVar 1) (mC (.int 3)))) mNil)) (mC (.int 2147483629))))
    (mRet (mOp oMod (mCB fIntA2 (mCons (mOp oDiv (mVar 5) (mC (.int 13))) mNil)) (mVar 2)))))))))))))
noncomputable def m__law_draw : MF := mfun 3 6 b__law_draw
theorem ok__law_draw (fx : Fx G mg) (F : Fun G.K "_law_draw" "_law_draw" t__law_draw f fd) : FnM P w G mg base 1 f fd ["_law_script", "_law_state", "_law_limit"] m__law_draw :=
  fn_M (k := 0) F sc__law_draw fun cdv A outer s H E hr tk => by
  exact (dSeq (dSetIx (dAdd rfl (dIx rfl (dVar 1 (by kernel_rfl) (by kernel_rfl) (by kernel_rfl) (by kernel_rfl)) dInt (fun _ _ => rfl)) dInt) (dVar 1 (by kernel_rfl) (by kernel_rfl) (by kernel_rfl) (by kernel_rfl)) dInt (by kernel_rfl) (by kernel_rfl) (fun _ => rfl) rfl)
    (dSeq (dIf (qAnd' (qEq 3 rfl (units64 hr) (dIx rfl (dVar 1 (by kernel_rfl) (by kernel_rfl) (by kernel_rfl) (by kernel_rfl)) dInt (fun _ _ => rfl)) dInt) (qAnd1 (qGt (dIx rfl (dVar 1 (by kernel_rfl) (by kernel_rfl) (by kernel_rfl) (by kernel_rfl)) dInt (fun _ _ => rfl)) dInt)))
    (dSeq (dSet (dMod (dTy cInt fIntA_ok fx.b_int (by kernel_rfl) (by kernel_rfl) (dCons (dIx rfl (dVar 1 (by kernel_rfl) (by kernel_rfl) (by kernel_rfl) (by kernel_rfl)) dInt (fun _ _ => rfl)) dNil (by kernel_rfl)) (by decide +kernel) (by kernel_rfl) ⟨(by kernel_rfl), (by kernel_rfl)⟩) (dVar 2 (by kernel_rfl) (by kernel_rfl) (by kernel_rfl) (by kernel_rfl))) sc__law_draw.nd (by kernel_rfl) (by kernel_rfl) (by kernel_rfl) (Or.inl rfl))
    (dSeq (dSetIx (dDiv (dIx rfl (dVar 1 (by kernel_rfl) (by kernel_rfl) (by kernel_rfl) (by kernel_rfl)) dInt (fun _ _ => rfl)) (dVar 2 (by kernel_rfl) (by kernel_rfl) (by kernel_rfl) (by kernel_rfl))) (dVar 1 (by kernel_rfl) (by kernel_rfl) (by kernel_rfl) (by kernel_rfl)) dInt (by kernel_rfl) (by kernel_rfl) (fun _ => rfl) rfl)
    (dOne (dRet (dVar 3 (by kernel_rfl) (by kernel_rfl) (by kernel_rfl) (by kernel_rfl))))))
    dSkip)
    (dSeq (dSetIx dInt (dVar 1 (by kernel_rfl) (by kernel_rfl) (by kernel_rfl) (by kernel_rfl)) dInt (by kernel_rfl) (by kernel_rfl) (fun _ => rfl) rfl)
    (dSeq (dSet dInt sc__law_draw.nd (by kernel_rfl) (by kernel_rfl) (by kernel_rfl) (Or.inl rfl))
    (dSeq (dIf (qGt (dB (cLen rfl) fLen_ok fx.b_len (by kernel_rfl) (by kernel_rfl) (dCons (dVar 0 (by kernel_rfl) (by kernel_rfl) (by kernel_rfl) (by kernel_rfl)) dNil (by kernel_rfl)) (by decide +kernel) (by kernel_rfl) ⟨(by kernel_rfl), (by kernel_rfl)⟩) dInt)
    (dOne (dSet (dIx rfl (dVar 0 (by kernel_rfl) (by kernel_rfl) (by kernel_rfl) (by kernel_rfl)) (dMod (dTy cInt fIntA_ok fx.b_int (by kernel_rfl) (by kernel_rfl) (dCons (dIx rfl (dVar 1 (by kernel_rfl) (by kernel_rfl) (by kernel_rfl) (by kernel_rfl)) dInt (fun _ _ => rfl)) dNil (by kernel_rfl)) (by decide +kernel) (by kernel_rfl) ⟨(by kernel_rfl), (by kernel_rfl)⟩) (dB (cLen rfl) fLen_ok fx.b_len (by kernel_rfl) (by kernel_rfl) (dCons (dVar 0 (by kernel_rfl) (by kernel_rfl) (by kernel_rfl) (by kernel_rfl)) dNil (by kernel_rfl)) (by decide +kernel) (by kernel_rfl) ⟨(by kernel_rfl), (by kernel_rfl)⟩)) (fun _ _ => rfl)) sc__law_draw.nd (by kernel_rfl) (by kernel_rfl) (by kernel_rfl) (Or.inl rfl)))
    dSkip)
    (dSeq (dSetIx (dAdd rfl (dIx rfl (dVar 1 (by kernel_rfl) (by kernel_rfl) (by kernel_rfl) (by kernel_rfl)) dInt (fun _ _ => rfl)) dInt) (dVar 1 (by kernel_rfl) (by kernel_rfl) (by kernel_rfl) (by kernel_rfl)) dInt (by kernel_rfl) (by kernel_rfl) (fun _ => rfl) rfl)
    (dSeq (dSet (dMul (dMod (dTy cInt fIntA_ok fx.b_int (by kernel_rfl) (by kernel_rfl) (dCons (dIx rfl (dVar 1 (by kernel_rfl) (by kernel_rfl) (by kernel_rfl) (by kernel_rfl)) dInt (fun _ _ => rfl)) dNil (by kernel_rfl)) (by decide +kernel) (by kernel_rfl) ⟨(by kernel_rfl), (by kernel_rfl)⟩) dInt) dInt) sc__law_draw.nd (by kernel_rfl) (by kernel_rfl) (by kernel_rfl) (Or.inl rfl))
    (dSeq (dSet (dAdd rfl (dAdd rfl (dAdd rfl (dVar 5 (by kernel_rfl) (by kernel_rfl) (by kernel_rfl) (by kernel_rfl)) (dMod (dTy cInt fIntA_ok fx.b_int (by kernel_rfl) (by kernel_rfl) (dCons (dVar 4 (by kernel_rfl) (by kernel_rfl) (by kernel_rfl) (by kernel_rfl)) dNil (by kernel_rfl)) (by decide +kernel) (by kernel_rfl) ⟨(by kernel_rfl), (by kernel_rfl)⟩) dInt)) (dMul dInt (dIx rfl (dVar 1 (by kernel_rfl) (by kernel_rfl) (by kernel_rfl) (by kernel_rfl)) dInt (fun _ _ => rfl)))) dInt) sc__law_draw.nd (by kernel_rfl) (by kernel_rfl) (by kernel_rfl) (Or.inl rfl))
    (dSeq (dSetIx (dMod (dTy cInt fIntA_ok fx.b_int (by kernel_rfl) (by kernel_rfl) (dCons (dVar 5 (by kernel_rfl) (by kernel_rfl) (by kernel_rfl) (by kernel_rfl)) dNil (by kernel_rfl)) (by decide +kernel) (by kernel_rfl) ⟨(by kernel_rfl), (by kernel_rfl)⟩) dInt) (dVar 1 (by kernel_rfl) (by kernel_rfl) (by kernel_rfl) (by kernel_rfl)) dInt (by kernel_rfl) (by kernel_rfl) (fun _ => rfl) rfl)
    (dSeq (dSet (dMod (dTy cInt fIntA_ok fx.b_int (by kernel_rfl) (by kernel_rfl) (dCons (dAdd rfl (dMul (dIx rfl (dVar 1 (by kernel_rfl) (by kernel_rfl) (by kernel_rfl) (by kernel_rfl)) dInt (fun _ _ => rfl)) dInt) (dIx rfl (dVar 1 (by kernel_rfl) (by kernel_rfl) (by kernel_rfl) (by kernel_rfl)) dInt (fun _ _ => rfl))) dNil (by kernel_rfl)) (by decide +kernel) (by kernel_rfl) ⟨(by kernel_rfl), (by kernel_rfl)⟩) dInt) sc__law_draw.nd (by kernel_rfl) (by kernel_rfl) (by kernel_rfl) (Or.inl rfl))
    (dOne (dRet (dMod (dTy cInt fIntA_ok fx.b_int (by kernel_rfl) (by kernel_rfl) (dCons (dDiv (dVar 5 (by kernel_rfl) (by kernel_rfl) (by kernel_rfl) (by kernel_rfl)) dInt) dNil (by kernel_rfl)) (by decide +kernel) (by kernel_rfl) ⟨(by kernel_rfl), (by kernel_rfl)⟩) (dVar 2 (by kernel_rfl) (by kernel_rfl) (by kernel_rfl) (by kernel_rfl)))))))))))))))
abbrev t__law_names : Stmt := topS 19
theorem sc__law_names : FnScope ["_law_script", "_law_state", "_law_many", "_law_most", "_law_letters", "_law_shift", "_law_names_here", "_law_k", "_law_name", "_law_j"] ["_law_script", "_law_state", "_law_many", "_law_most"] (defScope t__law_names) := ⟨rfl, rfl, rfl, by decide +kernel, rfl, by decide +kernel, by decide +kernel⟩
noncomputable def b__law_names : MS :=
    (mSeq (mSet 4 (mC (.str ("abcdefghijklmnopqrstuvwxyz" : Str))))
    (mSeq (mSet 5 (mCB m__law_draw (mCons (mVar 0) (mCons (mVar 1) (mCons (mC (.int 26)) mNil)))))
    (mSeq (mSet 6 (mLst mNil))
    (mSeq (mFor (iR1 (mVar 2)) (gN 7)
    (mSeq (mSet 8 (mOp oIx (mVar 4) (mOp oMod (mCB fIntA2 (mCons (mOp oAdd (mVar 5) (mOp oMulA (mC (.int 7)) (mVar 7))) mNil)) (mC (.int 26)))))
    (mSeq (mFor (iR1 (mCB m__law_draw (mCons (mVar 0) (mCons (mVar 1) (mCons (mVar 3) mNil))))) (gN 9)
    (mSet 8 (mOp oAdd (mOp oIx (mVar 4) (mCB m__law_draw (mCons (mVar 0) (mCons (mVar 1) (mCons (mC (.int 26)) mNil))))) (mVar 8))))
    (mDrop (mBM kList fAppend (mVar 6) (mCons (mVar 8) mNil))))))
    (mRet (mVar 6))))))
noncomputable def m__law_names : MF := mfun 4 10 b__law_names
theorem ok__law_names (fx : Fx G mg) (c__law_draw : Callee P w G mg base "_law_draw" 1 ["_law_script", "_law_state", "_law_limit"] m__law_draw) (F : Fun G.K "_law_names" "_law_names" t__law_names f fd) : FnM P w G mg base 2 f fd ["_law_script", "_law_state", "_law_many", "_law_most"] m__law_names :=
  fn_M (k := 1) F sc__law_names fun cdv A outer s H E hr tk => by
  exact (dSeq (dSet dStr sc__law_names.nd (by kernel_rfl) (by kernel_rfl) (by kernel_rfl) (Or.inl rfl))
    (dSeq (dSet (dCall (n := 3) rfl c__law_draw hr (by decide) tk rfl (dCons (dVar 0 (by kernel_rfl) (by kernel_rfl) (by kernel_rfl) (by kernel_rfl)) (dCons (dVar 1 (by kernel_rfl) (by kernel_rfl) (by kernel_rfl) (by kernel_rfl)) (dCons dInt dNil (by kernel_rfl)) (by kernel_rfl)) (by kernel_rfl)) (al_cons (al_cons (al_cons al_nil))) (by kernel_rfl) (by kernel_rfl) ⟨(by kernel_rfl), (by kernel_rfl)⟩) sc__law_names.nd (by kernel_rfl) (by kernel_rfl) (by kernel_rfl) (Or.inl rfl))
    (dSeq (dSet (dLst dNil) sc__law_names.nd (by kernel_rfl) (by kernel_rfl) (by kernel_rfl) (Or.inl rfl))
    (dSeq (dFor PassesOwn.leaving rfl (iRange1 (dVar 2 (by kernel_rfl) (by kernel_rfl) (by kernel_rfl) (by kernel_rfl)) fx.b_range (by kernel_rfl) (by kernel_rfl) (by kernel_rfl)) (gName sc__law_names.nd (by kernel_rfl) (by kernel_rfl) (Or.inl rfl))
    (dSeq (dSet (dIx rfl (dVar 4 (by kernel_rfl) (by kernel_rfl) (by kernel_rfl) (by kernel_rfl)) (dMod (dTy cInt fIntA_ok fx.b_int (by kernel_rfl) (by kernel_rfl) (dCons (dAdd rfl (dVar 5 (by kernel_rfl) (by kernel_rfl) (by kernel_rfl) (by kernel_rfl)) (dMul dInt (dVar 7 (by kernel_rfl) (by kernel_rfl) (by kernel_rfl) (by kernel_rfl)))) dNil (by kernel_rfl)) (by decide +kernel) (by kernel_rfl) ⟨(by kernel_rfl), (by kernel_rfl)⟩) dInt) (fun _ _ => rfl)) sc__law_names.nd (by kernel_rfl) (by kernel_rfl) (by kernel_rfl) (Or.inl rfl))
    (dSeq (dFor PassesOwn.leaving rfl (iRange1 (dCall (n := 3) rfl c__law_draw hr (by decide) tk rfl (dCons (dVar 0 (by kernel_rfl) (by kernel_rfl) (by kernel_rfl) (by kernel_rfl)) (dCons (dVar 1 (by kernel_rfl) (by kernel_rfl) (by kernel_rfl) (by kernel_rfl)) (dCons (dVar 3 (by kernel_rfl) (by kernel_rfl) (by kernel_rfl) (by kernel_rfl)) dNil (by kernel_rfl)) (by kernel_rfl)) (by kernel_rfl)) (al_cons (al_cons (al_cons al_nil))) (by kernel_rfl) (by kernel_rfl) ⟨(by kernel_rfl), (by kernel_rfl)⟩) fx.b_range (by kernel_rfl) (by kernel_rfl) (by kernel_rfl)) (gName sc__law_names.nd (by kernel_rfl) (by kernel_rfl) (Or.inl rfl))
    (dOne (dSet (dAdd rfl (dIx rfl (dVar 4 (by kernel_rfl) (by kernel_rfl) (by kernel_rfl) (by kernel_rfl)) (dCall (n := 3) rfl c__law_draw hr (by decide) tk rfl (dCons (dVar 0 (by kernel_rfl) (by kernel_rfl) (by kernel_rfl) (by kernel_rfl)) (dCons (dVar 1 (by kernel_rfl) (by kernel_rfl) (by kernel_rfl) (by kernel_rfl)) (dCons dInt dNil (by kernel_rfl)) (by kernel_rfl)) (by kernel_rfl)) (al_cons (al_cons (al_cons al_nil))) (by kernel_rfl) (by kernel_rfl) ⟨(by kernel_rfl), (by kernel_rfl)⟩) (fun _ _ => rfl)) (dVar 8 (by kernel_rfl) (by kernel_rfl) (by kernel_rfl) (by kernel_rfl))) sc__law_names.nd (by kernel_rfl) (by kernel_rfl) (by kernel_rfl) (Or.inl rfl))) (fun _ => rfl))
    (dOne (dExpr (dAppend (dVar 6 (by kernel_rfl) (by kernel_rfl) (by kernel_rfl) (by kernel_rfl)) (dVar 8 (by kernel_rfl) (by kernel_rfl) (by kernel_rfl) (by kernel_rfl)) rfl (by kernel_rfl) (pe_bm PySem.F.plainAttrs_list PySem.F.slot_list_append PySem.F.type_list_append mt_append (dVar 6 (by kernel_rfl) (by kernel_rfl) (by kernel_rfl) (by kernel_rfl)) (dCons (dVar 8 (by kernel_rfl) (by kernel_rfl) (by kernel_rfl) (by kernel_rfl)) dNil (by kernel_rfl)))) (by kernel_rfl))))) (fun _ => rfl))
    (dOne (dRet (dVar 6 (by kernel_rfl) (by kernel_rfl) (by kernel_rfl) (by kernel_rfl))))))))
abbrev t__law_told : Stmt := topS 20
theorem sc__law_told : FnScope ["_law_row", "e"] ["_law_row"] (defScope t__law_told) := ⟨rfl, rfl, rfl, by decide +kernel, rfl, by decide +kernel, by decide +kernel⟩
noncomputable def b__law_told : MS :=
    (mSeq (mTryN [⟨tk_BadName, 1, (mRet (mTup (mCons (mC (.str ("name" : Str))) (mCons (mAttrX ("name" : Str) at_name_i at_name_e (mVar 1)) mNil))))⟩, ⟨tk_BadNumber, 1, (mRet (mTup (mCons (mAttrX ("what" : Str) at_what_i at_what_e (mVar 1)) (mCons (mAttrX ("value" : Str) at_value_i at_value_e (mVar 1)) mNil))))⟩]
    (mDrop (mMake 3 m_Meeting___init__ (mCons (mOp oIx (mVar 0) (mC (.int 0))) (mCons (mOp oIx (mVar 0) (mC (.int 1))) (mCons (mOp oIx (mVar 0) (mC (.int 2))) (mCons (mOp oIx (mVar 0) (mC (.int 3))) (mCons (mOp oIx (mVar 0) (mC (.int 4))) mNil))))))))
    (mRet (mC .non)))
noncomputable def m__law_told : MF := mfun 1 2 b__law_told
theorem ok__law_told (fx : Fx G mg) (mk_Meeting : OwnCls P w G mg base "Meeting" 6 3 5 m_Meeting___init__) (F : Fun G.K "_law_told" "_law_told" t__law_told f fd) : FnM P w G mg base 8 f fd ["_law_row"] m__law_told :=
  fn_M (k := 7) F sc__law_told fun cdv A outer s H E hr tk => by
  exact (dSeq (dTryN (l := [⟨tk_BadName, 1, (mRet (mTup (mCons (mC (.str ("name" : Str))) (mCons (mAttrX ("name" : Str) at_name_i at_name_e (mVar 1)) mNil))))⟩, ⟨tk_BadNumber, 1, (mRet (mTup (mCons (mAttrX ("what" : Str) at_what_i at_what_e (mVar 1)) (mCons (mAttrX ("value" : Str) at_value_i at_value_e (mVar 1)) mNil))))⟩]) rfl (.cons fx.t_BadName (.cons fx.t_BadNumber .nil)) rfl rfl rfl sc__law_told.nd tk (fun W1 pn1 xe1 tk1 hp1 => (dOne (dExpr (dMake (n := 5) rfl mk_Meeting hr (by decide) tk1 (dCons (dIx rfl (dVar 0 (by kernel_rfl) (by kernel_rfl) (by kernel_rfl) (by kernel_rfl)) dInt (fun _ _ => rfl)) (dCons (dIx rfl (dVar 0 (by kernel_rfl) (by kernel_rfl) (by kernel_rfl) (by kernel_rfl)) dInt (fun _ _ => rfl)) (dCons (dIx rfl (dVar 0 (by kernel_rfl) (by kernel_rfl) (by kernel_rfl) (by kernel_rfl)) dInt (fun _ _ => rfl)) (dCons (dIx rfl (dVar 0 (by kernel_rfl) (by kernel_rfl) (by kernel_rfl) (by kernel_rfl)) dInt (fun _ _ => rfl)) (dCons (dIx rfl (dVar 0 (by kernel_rfl) (by kernel_rfl) (by kernel_rfl) (by kernel_rfl)) dInt (fun _ _ => rfl)) dNil (by kernel_rfl)) (by kernel_rfl)) (by kernel_rfl)) (by kernel_rfl)) (by kernel_rfl)) (al_cons (al_cons (al_cons (al_cons (al_cons al_nil))))) (by kernel_rfl) (by kernel_rfl) ⟨(by kernel_rfl), (by kernel_rfl)⟩) (by kernel_rfl))))
    (.cons ⟨(by show _ = _; kernel_rfl), (by kernel_rfl), Or.inl fx.g_BadName⟩ (by kernel_rfl) (by kernel_rfl) (fun a1 pm1 => (dOne (dRet (dTup (dCons dStr (dCons (dAttr rfl fx.a_name (dVar 1 (by kernel_rfl) (by kernel_rfl) (by kernel_rfl) (by kernel_rfl)) (by kernel_rfl)) dNil (by kernel_rfl)) (by kernel_rfl)))))) (.cons ⟨(by show _ = _; kernel_rfl), (by kernel_rfl), Or.inl fx.g_BadNumber⟩ (by kernel_rfl) (by kernel_rfl) (fun a1 pm1 => (dOne (dRet (dTup (dCons (dAttr rfl fx.a_what (dVar 1 (by kernel_rfl) (by kernel_rfl) (by kernel_rfl) (by kernel_rfl)) (by kernel_rfl)) (dCons (dAttr rfl fx.a_value (dVar 1 (by kernel_rfl) (by kernel_rfl) (by kernel_rfl) (by kernel_rfl)) (by kernel_rfl)) dNil (by kernel_rfl)) (by kernel_rfl)))))) .nil)))
    (dOne (dRet dNon)))
abbrev t__law_refusals_hold : Stmt := topS 21
theorem sc__law_refusals_hold : FnScope ["_law_script", "_law_state", "_law_row", "_law_odd", "_law_words", "_law_high", "_law_low", "_law_at", "_law_wrong", "_law_rest"] ["_law_script", "_law_state", "_law_row"] (defScope t__law_refusals_hold) := ⟨rfl, rfl, rfl, by decide +kernel, rfl, by decide +kernel, by decide +kernel⟩
noncomputable def b__law_refusals_hold : MS :=
    (mSeq (mSet 3 (mOp oIx (mLst (mCons (mC (.str ("" : Str))) (mCons (mC (.str ("A" : Str))) (mCons (mC (.str ("abcdefghi" : Str))) (mCons (mC .non) (mCons (mC (.int 3)) (mCons (mC (.str ("a " : Str))) mNil))))))) (mCB m__law_draw (mCons (mVar 0) (mCons (mVar 1) (mCons (mC (.int 6)) mNil))))))
    (mSeq (mSet 4 (mLst (mCons (mC (.str ("name" : Str))) (mCons (mC (.str ("name" : Str))) (mCons (mC (.str ("opens" : Str))) (mCons (mC (.str ("latest" : Str))) (mCons (mC (.str ("length" : Str))) mNil)))))))
    (mSeq (mSet 5 (mLst (mCons (mC (.int 0)) (mCons (mC (.int 0)) (mCons (mC (.int 2881)) (mCons (mC (.int 2881)) (mCons (mC (.int 601)) mNil)))))))
    (mSeq (mSet 6 (mLst (mCons (mC (.int 0)) (mCons (mC (.int 0)) (mCons (mNeg (mC (.int 1))) (mCons (mOp oSub (mOp oIx (mVar 2) (mC (.int 2))) (mC (.int 1))) (mCons (mNeg (mC (.int 1))) mNil)))))))
    (mSeq (mFor (iR1 (mC (.int 5))) (gN 7)
    (mSeq (mSet 8 (mOp oIx (mLst (mCons (mC (.bl true)) (mCons (mC .non) (mCons (mOp oIx (mVar 5) (mVar 7)) (mCons (mOp oIx (mVar 6) (mVar 7)) (mCons (mOp oPow (mC (.int 10)) (mC (.int 30))) (mCons (mNeg (mOp oPow (mC (.int 10)) (mC (.int 30)))) mNil))))))) (mCB m__law_draw (mCons (mVar 0) (mCons (mVar 1) (mCons (mC (.int 6)) mNil))))))
    (mSeq (mIf (mB (mOp oLt (mVar 7) (mC (.int 2))))
    (mSet 8 (mVar 3))
    mSkip)
    (mFor (iSeq (mLst (mCons (mSl oSl (mVar 2) (mPart (mOp oAdd (mVar 7) (mC (.int 1)))) mNoPart) (mCons (mSl oSl (mTup (mCons (mC .non) (mCons (mC .non) (mCons (mC .non) (mCons (mC .non) (mCons (mC .non) mNil)))))) (mPart (mOp oAdd (mVar 7) (mC (.int 1)))) mNoPart) mNil)))) (gN 9)
    (mIf (mB (mOp (oNe 3) (mCB m__law_told (mCons (mOp oAdd (mOp oAdd (mSl oSl (mVar 2) mNoPart (mPart (mVar 7))) (mTup (mCons (mVar 8) mNil))) (mVar 9)) mNil)) (mTup (mCons (mOp oIx (mVar 4) (mVar 7)) (mCons (mVar 8) mNil)))))
    (mRet (mC (.bl false)))
    mSkip)))))
    (mRet (mC (.bl true))))))))
noncomputable def m__law_refusals_hold : MF := mfun 3 10 b__law_refusals_hold
theorem ok__law_refusals_hold (fx : Fx G mg) (c__law_draw : Callee P w G mg base "_law_draw" 1 ["_law_script", "_law_state", "_law_limit"] m__law_draw) (c__law_told : Callee P w G mg base "_law_told" 8 ["_law_row"] m__law_told) (F : Fun G.K "_law_refusals_hold" "_law_refusals_hold" t__law_refusals_hold f fd) : FnM P w G mg base 9 f fd ["_law_script", "_law_state", "_law_row"] m__law_refusals_hold :=
  fn_M (k := 8) F sc__law_refusals_hold fun cdv A outer s H E hr tk => by
  exact (dSeq (dSet (dIx rfl (dLst (dCons dStr (dCons dStr (dCons dStr (dCons dNon (dCons dInt (dCons dStr dNil (by kernel_rfl)) (by kernel_rfl)) (by kernel_rfl)) (by kernel_rfl)) (by kernel_rfl)) (by kernel_rfl))) (dCall (n := 3) rfl c__law_draw hr (by decide) tk rfl (dCons (dVar 0 (by kernel_rfl) (by kernel_rfl) (by kernel_rfl) (by kernel_rfl)) (dCons (dVar 1 (by kernel_rfl) (by kernel_rfl) (by kernel_rfl) (by kernel_rfl)) (dCons dInt dNil (by kernel_rfl)) (by kernel_rfl)) (by kernel_rfl)) (al_cons (al_cons (al_cons al_nil))) (by kernel_rfl) (by kernel_rfl) ⟨(by kernel_rfl), (by kernel_rfl)⟩) (fun _ _ => rfl)) sc__law_refusals_hold.nd (by kernel_rfl) (by kernel_rfl) (by kernel_rfl) (Or.inl rfl))
    (dSeq (dSet (dLst (dCons dStr (dCons dStr (dCons dStr (dCons dStr (dCons dStr dNil (by kernel_rfl)) (by kernel_rfl)) (by kernel_rfl)) (by kernel_rfl)) (by kernel_rfl))) sc__law_refusals_hold.nd (by kernel_rfl) (by kernel_rfl) (by kernel_rfl) (Or.inl rfl))
    (dSeq (dSet (dLst (dCons dInt (dCons dInt (dCons dInt (dCons dInt (dCons dInt dNil (by kernel_rfl)) (by kernel_rfl)) (by kernel_rfl)) (by kernel_rfl)) (by kernel_rfl))) sc__law_refusals_hold.nd (by kernel_rfl) (by kernel_rfl) (by kernel_rfl) (Or.inl rfl))
    (dSeq (dSet (dLst (dCons dInt (dCons dInt (dCons (dNeg dInt) (dCons (dSub (dIx rfl (dVar 2 (by kernel_rfl) (by kernel_rfl) (by kernel_rfl) (by kernel_rfl)) dInt (fun _ _ => rfl)) dInt) (dCons (dNeg dInt) dNil (by kernel_rfl)) (by kernel_rfl)) (by kernel_rfl)) (by kernel_rfl)) (by kernel_rfl))) sc__law_refusals_hold.nd (by kernel_rfl) (by kernel_rfl) (by kernel_rfl) (Or.inl rfl))
    (dSeq (dFor PassesOwn.leaving rfl (iRange1 dInt fx.b_range (by kernel_rfl) (by kernel_rfl) (by kernel_rfl)) (gName sc__law_refusals_hold.nd (by kernel_rfl) (by kernel_rfl) (Or.inl rfl))
    (dSeq (dSet (dIx rfl (dLst (dCons dBl (dCons dNon (dCons (dIx rfl (dVar 5 (by kernel_rfl) (by kernel_rfl) (by kernel_rfl) (by kernel_rfl)) (dVar 7 (by kernel_rfl) (by kernel_rfl) (by kernel_rfl) (by kernel_rfl)) (fun _ _ => rfl)) (dCons (dIx rfl (dVar 6 (by kernel_rfl) (by kernel_rfl) (by kernel_rfl) (by kernel_rfl)) (dVar 7 (by kernel_rfl) (by kernel_rfl) (by kernel_rfl) (by kernel_rfl)) (fun _ _ => rfl)) (dCons (dPow dInt dInt) (dCons (dNeg (dPow dInt dInt)) dNil (by kernel_rfl)) (by kernel_rfl)) (by kernel_rfl)) (by kernel_rfl)) (by kernel_rfl)) (by kernel_rfl))) (dCall (n := 3) rfl c__law_draw hr (by decide) tk rfl (dCons (dVar 0 (by kernel_rfl) (by kernel_rfl) (by kernel_rfl) (by kernel_rfl)) (dCons (dVar 1 (by kernel_rfl) (by kernel_rfl) (by kernel_rfl) (by kernel_rfl)) (dCons dInt dNil (by kernel_rfl)) (by kernel_rfl)) (by kernel_rfl)) (al_cons (al_cons (al_cons al_nil))) (by kernel_rfl) (by kernel_rfl) ⟨(by kernel_rfl), (by kernel_rfl)⟩) (fun _ _ => rfl)) sc__law_refusals_hold.nd (by kernel_rfl) (by kernel_rfl) (by kernel_rfl) (Or.inl rfl))
    (dSeq (dIf (qLt (dVar 7 (by kernel_rfl) (by kernel_rfl) (by kernel_rfl) (by kernel_rfl)) dInt)
    (dOne (dSet (dVar 3 (by kernel_rfl) (by kernel_rfl) (by kernel_rfl) (by kernel_rfl)) sc__law_refusals_hold.nd (by kernel_rfl) (by kernel_rfl) (by kernel_rfl) (Or.inl rfl)))
    dSkip)
    (dOne (dFor PassesOwn.leaving rfl (iSeq' rfl (dLst (dCons (dSl rfl (dVar 2 (by kernel_rfl) (by kernel_rfl) (by kernel_rfl) (by kernel_rfl)) (dPart (dAdd rfl (dVar 7 (by kernel_rfl) (by kernel_rfl) (by kernel_rfl) (by kernel_rfl)) dInt)) dNoP) (dCons (dSl rfl (dTup (dCons dNon (dCons dNon (dCons dNon (dCons dNon (dCons dNon dNil (by kernel_rfl)) (by kernel_rfl)) (by kernel_rfl)) (by kernel_rfl)) (by kernel_rfl))) (dPart (dAdd rfl (dVar 7 (by kernel_rfl) (by kernel_rfl) (by kernel_rfl) (by kernel_rfl)) dInt)) dNoP) dNil (by kernel_rfl)) (by kernel_rfl)))) (gName sc__law_refusals_hold.nd (by kernel_rfl) (by kernel_rfl) (Or.inl rfl))
    (dOne (dIf (qNe 3 rfl (units64 hr) (dCall (n := 1) rfl c__law_told hr (by decide) tk rfl (dCons (dAdd rfl (dAdd rfl (dSl rfl (dVar 2 (by kernel_rfl) (by kernel_rfl) (by kernel_rfl) (by kernel_rfl)) dNoP (dPart (dVar 7 (by kernel_rfl) (by kernel_rfl) (by kernel_rfl) (by kernel_rfl)))) (dTup (dCons (dVar 8 (by kernel_rfl) (by kernel_rfl) (by kernel_rfl) (by kernel_rfl)) dNil (by kernel_rfl)))) (dVar 9 (by kernel_rfl) (by kernel_rfl) (by kernel_rfl) (by kernel_rfl))) dNil (by kernel_rfl)) (al_cons al_nil) (by kernel_rfl) (by kernel_rfl) ⟨(by kernel_rfl), (by kernel_rfl)⟩) (dTup (dCons (dIx rfl (dVar 4 (by kernel_rfl) (by kernel_rfl) (by kernel_rfl) (by kernel_rfl)) (dVar 7 (by kernel_rfl) (by kernel_rfl) (by kernel_rfl) (by kernel_rfl)) (fun _ _ => rfl)) (dCons (dVar 8 (by kernel_rfl) (by kernel_rfl) (by kernel_rfl) (by kernel_rfl)) dNil (by kernel_rfl)) (by kernel_rfl))))
    (dOne (dRet dBl))
    dSkip)) (fun _ => rfl))))) (fun _ => rfl))
    (dOne (dRet dBl)))))))
abbrev t_law : Stmt := topS 22
theorem sc_law : FnScope ["_law_script", "_law_state", "_law_names_here", "_law_opens", "_law_latest", "_law_row", "_law_meeting", "_law_other", "_law_kind", "_law_second"] ["_law_script"] (defScope t_law) := ⟨rfl, rfl, rfl, by decide +kernel, rfl, by decide +kernel, by decide +kernel⟩
noncomputable def b_law : MS :=
    (mSeq (mSet 1 (mCB m__law_start (mCons (mVar 0) mNil)))
    (mSeq (mSet 2 (mCB m__law_names (mCons (mVar 0) (mCons (mVar 1) (mCons (mC (.int 2)) (mCons (mC (.int 8)) mNil))))))
    (mSeq (mSet 3 (mCB m__law_draw (mCons (mVar 0) (mCons (mVar 1) (mCons (mC (.int 2881)) mNil)))))
    (mSeq (mSet 4 (mOp oAdd (mVar 3) (mCB m__law_draw (mCons (mVar 0) (mCons (mVar 1) (mCons (mOp oSub (mC (.int 2881)) (mVar 3)) mNil))))))
    (mSeq (mSet 5 (mTup (mCons (mOp oIx (mVar 2) (mC (.int 0))) (mCons (mOp oIx (mVar 2) (mC (.int 1))) (mCons (mVar 3) (mCons (mVar 4) (mCons (mCB m__law_draw (mCons (mVar 0) (mCons (mVar 1) (mCons (mC (.int 601)) mNil)))) mNil)))))))
    (mSeq (mSet 6 (mMake 3 m_Meeting___init__ (mCons (mOp oIx (mVar 5) (mC (.int 0))) (mCons (mOp oIx (mVar 5) (mC (.int 1))) (mCons (mOp oIx (mVar 5) (mC (.int 2))) (mCons (mOp oIx (mVar 5) (mC (.int 3))) (mCons (mOp oIx (mVar 5) (mC (.int 4))) mNil)))))))
    (mSeq (mIf (mB (mOp (oNe 3) (mTup (mCons (mAttrX ("name" : Str) at_name_i at_name_e (mVar 6)) (mCons (mAttrX ("place" : Str) at_place_i at_place_e (mVar 6)) (mCons (mAttrX ("opens" : Str) at_opens_i at_opens_e (mVar 6)) (mCons (mAttrX ("latest" : Str) at_latest_i at_latest_e (mVar 6)) (mCons (mAttrX ("length" : Str) at_length_i at_length_e (mVar 6)) mNil)))))) (mVar 5)))
    (mRet (mC (.bl false)))
    mSkip)
    (mSeq (mSet 7 (mTup (mCons (mOp oIx (mVar 2) (mCB m__law_draw (mCons (mVar 0) (mCons (mVar 1) (mCons (mC (.int 2)) mNil))))) (mCons (mOp oIx (mVar 2) (mCB m__law_draw (mCons (mVar 0) (mCons (mVar 1) (mCons (mC (.int 2)) mNil))))) (mCons (mVar 3) (mCons (mVar 4) (mCons (mOp oIx (mVar 5) (mC (.int 4))) mNil)))))))
    (mSeq (mSet 8 (mCB m__law_draw (mCons (mVar 0) (mCons (mVar 1) (mCons (mC (.int 6)) mNil)))))
    (mSeq (mIf (mB (mOp (oEq 3) (mVar 8) (mC (.int 0))))
    (mSet 7 (mTup (mCons (mOp oIx (mVar 5) (mC (.int 0))) (mCons (mOp oIx (mVar 5) (mC (.int 1))) (mCons (mCB fMax2 (mCons (mC (.int 0)) (mCons (mCB fIntA2 (mCons (mOp oSub (mVar 3) (mC (.int 1))) mNil)) mNil))) (mCons (mVar 4) (mCons (mOp oIx (mVar 5) (mC (.int 4))) mNil)))))))
    mSkip)
    (mSeq (mIf (mB (mOp (oEq 3) (mVar 8) (mC (.int 1))))
    (mSet 7 (mTup (mCons (mOp oIx (mVar 5) (mC (.int 0))) (mCons (mOp oIx (mVar 5) (mC (.int 1))) (mCons (mVar 3) (mCons (mCB fMin2 (mCons (mC (.int 2880)) (mCons (mCB fIntA2 (mCons (mOp oAdd (mVar 4) (mC (.int 1))) mNil)) mNil))) (mCons (mOp oIx (mVar 5) (mC (.int 4))) mNil)))))))
    mSkip)
    (mSeq (mIf (mB (mOp (oEq 3) (mVar 8) (mC (.int 2))))
    (mSet 7 (mTup (mCons (mOp oIx (mVar 5) (mC (.int 0))) (mCons (mOp oIx (mVar 5) (mC (.int 1))) (mCons (mVar 3) (mCons (mVar 4) (mCons (mOp oSub (mC (.int 600)) (mOp oIx (mVar 5) (mC (.int 4)))) mNil)))))))
    mSkip)
    (mSeq (mSet 9 (mMake 3 m_Meeting___init__ (mCons (mOp oIx (mVar 7) (mC (.int 0))) (mCons (mOp oIx (mVar 7) (mC (.int 1))) (mCons (mOp oIx (mVar 7) (mC (.int 2))) (mCons (mOp oIx (mVar 7) (mC (.int 3))) (mCons (mOp oIx (mVar 7) (mC (.int 4))) mNil)))))))
    (mSeq (mIf (mTOr (mB (mOp (oNe 3) (mOp (oOwnEq 3 nf_Meeting m_Meeting___eq__) (mVar 6) (mVar 9)) (mOp (oEq 3) (mVar 5) (mVar 7)))) (mB (mOp (oEq 3) (mOp (oOwnNe 3 nf_Meeting m_Meeting___eq__) (mVar 6) (mVar 9)) (mOp (oEq 3) (mVar 5) (mVar 7)))))
    (mRet (mC (.bl false)))
    mSkip)
    (mSeq (mIf (mTOr (mB (mIsN true (mCB m__law_told (mCons (mTup (mCons (mC (.str ("a" : Str))) (mCons (mC (.str ("b" : Str))) (mCons (mC (.int 2880)) (mCons (mC (.int 2880)) (mCons (mC (.int 600)) mNil)))))) mNil)))) (mB (mIsN true (mCB m__law_told (mCons (mTup (mCons (mC (.str ("a" : Str))) (mCons (mC (.str ("a" : Str))) (mCons (mC (.int 0)) (mCons (mC (.int 0)) (mCons (mC (.int 0)) mNil)))))) mNil)))))
    (mRet (mC (.bl false)))
    mSkip)
    (mRet (mCB m__law_refusals_hold (mCons (mVar 0) (mCons (mVar 1) (mCons (mVar 5) mNil))))))))))))))))))))
noncomputable def m_law : MF := mfun 1 10 b_law
theorem ok_law (fx : Fx G mg) (c__law_start : Callee P w G mg base "_law_start" 1 ["_law_script"] m__law_start) (c__law_names : Callee P w G mg base "_law_names" 2 ["_law_script", "_law_state", "_law_many", "_law_most"] m__law_names) (c__law_draw : Callee P w G mg base "_law_draw" 1 ["_law_script", "_law_state", "_law_limit"] m__law_draw) (c__law_told : Callee P w G mg base "_law_told" 8 ["_law_row"] m__law_told) (c__law_refusals_hold : Callee P w G mg base "_law_refusals_hold" 9 ["_law_script", "_law_state", "_law_row"] m__law_refusals_hold) (mk_Meeting : OwnCls P w G mg base "Meeting" 6 3 5 m_Meeting___init__) (oe_Meeting : OwnEq P w G mg base 1 3 nf_Meeting m_Meeting___eq__) (F : Fun G.K "law" "law" t_law f fd) : FnM P w G mg base 10 f fd ["_law_script"] m_law :=
  fn_M (k := 9) F sc_law fun cdv A outer s H E hr tk => by
  exact (dSeq (dSet (dCall (n := 1) rfl c__law_start hr (by decide) tk rfl (dCons (dVar 0 (by kernel_rfl) (by kernel_rfl) (by kernel_rfl) (by kernel_rfl)) dNil (by kernel_rfl)) (al_cons al_nil) (by kernel_rfl) (by kernel_rfl) ⟨(by kernel_rfl), (by kernel_rfl)⟩) sc_law.nd (by kernel_rfl) (by kernel_rfl) (by kernel_rfl) (Or.inl rfl))
    (dSeq (dSet (dCall (n := 4) rfl c__law_names hr (by decide) tk rfl (dCons (dVar 0 (by kernel_rfl) (by kernel_rfl) (by kernel_rfl) (by kernel_rfl)) (dCons (dVar 1 (by kernel_rfl) (by kernel_rfl) (by kernel_rfl) (by kernel_rfl)) (dCons dInt (dCons dInt dNil (by kernel_rfl)) (by kernel_rfl)) (by kernel_rfl)) (by kernel_rfl)) (al_cons (al_cons (al_cons (al_cons al_nil)))) (by kernel_rfl) (by kernel_rfl) ⟨(by kernel_rfl), (by kernel_rfl)⟩) sc_law.nd (by kernel_rfl) (by kernel_rfl) (by kernel_rfl) (Or.inl rfl))
    (dSeq (dSet (dCall (n := 3) rfl c__law_draw hr (by decide) tk rfl (dCons (dVar 0 (by kernel_rfl) (by kernel_rfl) (by kernel_rfl) (by kernel_rfl)) (dCons (dVar 1 (by kernel_rfl) (by kernel_rfl) (by kernel_rfl) (by kernel_rfl)) (dCons dInt dNil (by kernel_rfl)) (by kernel_rfl)) (by kernel_rfl)) (al_cons (al_cons (al_cons al_nil))) (by kernel_rfl) (by kernel_rfl) ⟨(by kernel_rfl), (by kernel_rfl)⟩) sc_law.nd (by kernel_rfl) (by kernel_rfl) (by kernel_rfl) (Or.inl rfl))
    (dSeq (dSet (dAdd rfl (dVar 3 (by kernel_rfl) (by kernel_rfl) (by kernel_rfl) (by kernel_rfl)) (dCall (n := 3) rfl c__law_draw hr (by decide) tk rfl (dCons (dVar 0 (by kernel_rfl) (by kernel_rfl) (by kernel_rfl) (by kernel_rfl)) (dCons (dVar 1 (by kernel_rfl) (by kernel_rfl) (by kernel_rfl) (by kernel_rfl)) (dCons (dSub dInt (dVar 3 (by kernel_rfl) (by kernel_rfl) (by kernel_rfl) (by kernel_rfl))) dNil (by kernel_rfl)) (by kernel_rfl)) (by kernel_rfl)) (al_cons (al_cons (al_cons al_nil))) (by kernel_rfl) (by kernel_rfl) ⟨(by kernel_rfl), (by kernel_rfl)⟩)) sc_law.nd (by kernel_rfl) (by kernel_rfl) (by kernel_rfl) (Or.inl rfl))
    (dSeq (dSet (dTup (dCons (dIx rfl (dVar 2 (by kernel_rfl) (by kernel_rfl) (by kernel_rfl) (by kernel_rfl)) dInt (fun _ _ => rfl)) (dCons (dIx rfl (dVar 2 (by kernel_rfl) (by kernel_rfl) (by kernel_rfl) (by kernel_rfl)) dInt (fun _ _ => rfl)) (dCons (dVar 3 (by kernel_rfl) (by kernel_rfl) (by kernel_rfl) (by kernel_rfl)) (dCons (dVar 4 (by kernel_rfl) (by kernel_rfl) (by kernel_rfl) (by kernel_rfl)) (dCons (dCall (n := 3) rfl c__law_draw hr (by decide) tk rfl (dCons (dVar 0 (by kernel_rfl) (by kernel_rfl) (by kernel_rfl) (by kernel_rfl)) (dCons (dVar 1 (by kernel_rfl) (by kernel_rfl) (by kernel_rfl) (by kernel_rfl)) (dCons dInt dNil (by kernel_rfl)) (by kernel_rfl)) (by kernel_rfl)) (al_cons (al_cons (al_cons al_nil))) (by kernel_rfl) (by kernel_rfl) ⟨(by kernel_rfl), (by kernel_rfl)⟩) dNil (by kernel_rfl)) (by kernel_rfl)) (by kernel_rfl)) (by kernel_rfl)) (by kernel_rfl))) sc_law.nd (by kernel_rfl) (by kernel_rfl) (by kernel_rfl) (Or.inl rfl))
    (dSeq (dSet (dMake (n := 5) rfl mk_Meeting hr (by decide) tk (dCons (dIx rfl (dVar 5 (by kernel_rfl) (by kernel_rfl) (by kernel_rfl) (by kernel_rfl)) dInt (fun _ _ => rfl)) (dCons (dIx rfl (dVar 5 (by kernel_rfl) (by kernel_rfl) (by kernel_rfl) (by kernel_rfl)) dInt (fun _ _ => rfl)) (dCons (dIx rfl (dVar 5 (by kernel_rfl) (by kernel_rfl) (by kernel_rfl) (by kernel_rfl)) dInt (fun _ _ => rfl)) (dCons (dIx rfl (dVar 5 (by kernel_rfl) (by kernel_rfl) (by kernel_rfl) (by kernel_rfl)) dInt (fun _ _ => rfl)) (dCons (dIx rfl (dVar 5 (by kernel_rfl) (by kernel_rfl) (by kernel_rfl) (by kernel_rfl)) dInt (fun _ _ => rfl)) dNil (by kernel_rfl)) (by kernel_rfl)) (by kernel_rfl)) (by kernel_rfl)) (by kernel_rfl)) (al_cons (al_cons (al_cons (al_cons (al_cons al_nil))))) (by kernel_rfl) (by kernel_rfl) ⟨(by kernel_rfl), (by kernel_rfl)⟩) sc_law.nd (by kernel_rfl) (by kernel_rfl) (by kernel_rfl) (Or.inl rfl))
    (dSeq (dIf (qNe 3 rfl (units64 hr) (dTup (dCons (dAttr rfl fx.a_name (dVar 6 (by kernel_rfl) (by kernel_rfl) (by kernel_rfl) (by kernel_rfl)) (by kernel_rfl)) (dCons (dAttr rfl fx.a_place (dVar 6 (by kernel_rfl) (by kernel_rfl) (by kernel_rfl) (by kernel_rfl)) (by kernel_rfl)) (dCons (dAttr rfl fx.a_opens (dVar 6 (by kernel_rfl) (by kernel_rfl) (by kernel_rfl) (by kernel_rfl)) (by kernel_rfl)) (dCons (dAttr rfl fx.a_latest (dVar 6 (by kernel_rfl) (by kernel_rfl) (by kernel_rfl) (by kernel_rfl)) (by kernel_rfl)) (dCons (dAttr rfl fx.a_length (dVar 6 (by kernel_rfl) (by kernel_rfl) (by kernel_rfl) (by kernel_rfl)) (by kernel_rfl)) dNil (by kernel_rfl)) (by kernel_rfl)) (by kernel_rfl)) (by kernel_rfl)) (by kernel_rfl))) (dVar 5 (by kernel_rfl) (by kernel_rfl) (by kernel_rfl) (by kernel_rfl)))
    (dOne (dRet dBl))
    dSkip)
    (dSeq (dSet (dTup (dCons (dIx rfl (dVar 2 (by kernel_rfl) (by kernel_rfl) (by kernel_rfl) (by kernel_rfl)) (dCall (n := 3) rfl c__law_draw hr (by decide) tk rfl (dCons (dVar 0 (by kernel_rfl) (by kernel_rfl) (by kernel_rfl) (by kernel_rfl)) (dCons (dVar 1 (by kernel_rfl) (by kernel_rfl) (by kernel_rfl) (by kernel_rfl)) (dCons dInt dNil (by kernel_rfl)) (by kernel_rfl)) (by kernel_rfl)) (al_cons (al_cons (al_cons al_nil))) (by kernel_rfl) (by kernel_rfl) ⟨(by kernel_rfl), (by kernel_rfl)⟩) (fun _ _ => rfl)) (dCons (dIx rfl (dVar 2 (by kernel_rfl) (by kernel_rfl) (by kernel_rfl) (by kernel_rfl)) (dCall (n := 3) rfl c__law_draw hr (by decide) tk rfl (dCons (dVar 0 (by kernel_rfl) (by kernel_rfl) (by kernel_rfl) (by kernel_rfl)) (dCons (dVar 1 (by kernel_rfl) (by kernel_rfl) (by kernel_rfl) (by kernel_rfl)) (dCons dInt dNil (by kernel_rfl)) (by kernel_rfl)) (by kernel_rfl)) (al_cons (al_cons (al_cons al_nil))) (by kernel_rfl) (by kernel_rfl) ⟨(by kernel_rfl), (by kernel_rfl)⟩) (fun _ _ => rfl)) (dCons (dVar 3 (by kernel_rfl) (by kernel_rfl) (by kernel_rfl) (by kernel_rfl)) (dCons (dVar 4 (by kernel_rfl) (by kernel_rfl) (by kernel_rfl) (by kernel_rfl)) (dCons (dIx rfl (dVar 5 (by kernel_rfl) (by kernel_rfl) (by kernel_rfl) (by kernel_rfl)) dInt (fun _ _ => rfl)) dNil (by kernel_rfl)) (by kernel_rfl)) (by kernel_rfl)) (by kernel_rfl)) (by kernel_rfl))) sc_law.nd (by kernel_rfl) (by kernel_rfl) (by kernel_rfl) (Or.inl rfl))
    (dSeq (dSet (dCall (n := 3) rfl c__law_draw hr (by decide) tk rfl (dCons (dVar 0 (by kernel_rfl) (by kernel_rfl) (by kernel_rfl) (by kernel_rfl)) (dCons (dVar 1 (by kernel_rfl) (by kernel_rfl) (by kernel_rfl) (by kernel_rfl)) (dCons dInt dNil (by kernel_rfl)) (by kernel_rfl)) (by kernel_rfl)) (al_cons (al_cons (al_cons al_nil))) (by kernel_rfl) (by kernel_rfl) ⟨(by kernel_rfl), (by kernel_rfl)⟩) sc_law.nd (by kernel_rfl) (by kernel_rfl) (by kernel_rfl) (Or.inl rfl))
    (dSeq (dIf (qEq 3 rfl (units64 hr) (dVar 8 (by kernel_rfl) (by kernel_rfl) (by kernel_rfl) (by kernel_rfl)) dInt)
    (dOne (dSet (dTup (dCons (dIx rfl (dVar 5 (by kernel_rfl) (by kernel_rfl) (by kernel_rfl) (by kernel_rfl)) dInt (fun _ _ => rfl)) (dCons (dIx rfl (dVar 5 (by kernel_rfl) (by kernel_rfl) (by kernel_rfl) (by kernel_rfl)) dInt (fun _ _ => rfl)) (dCons (dB (call_max2 rfl) fMax2_ok fx.b_max (by kernel_rfl) (by kernel_rfl) (dCons dInt (dCons (dTy cInt fIntA_ok fx.b_int (by kernel_rfl) (by kernel_rfl) (dCons (dSub (dVar 3 (by kernel_rfl) (by kernel_rfl) (by kernel_rfl) (by kernel_rfl)) dInt) dNil (by kernel_rfl)) (by decide +kernel) (by kernel_rfl) ⟨(by kernel_rfl), (by kernel_rfl)⟩) dNil (by kernel_rfl)) (by kernel_rfl)) (by decide +kernel) (by kernel_rfl) ⟨(by kernel_rfl), (by kernel_rfl)⟩) (dCons (dVar 4 (by kernel_rfl) (by kernel_rfl) (by kernel_rfl) (by kernel_rfl)) (dCons (dIx rfl (dVar 5 (by kernel_rfl) (by kernel_rfl) (by kernel_rfl) (by kernel_rfl)) dInt (fun _ _ => rfl)) dNil (by kernel_rfl)) (by kernel_rfl)) (by kernel_rfl)) (by kernel_rfl)) (by kernel_rfl))) sc_law.nd (by kernel_rfl) (by kernel_rfl) (by kernel_rfl) (Or.inl rfl)))
    dSkip)
    (dSeq (dIf (qEq 3 rfl (units64 hr) (dVar 8 (by kernel_rfl) (by kernel_rfl) (by kernel_rfl) (by kernel_rfl)) dInt)
    (dOne (dSet (dTup (dCons (dIx rfl (dVar 5 (by kernel_rfl) (by kernel_rfl) (by kernel_rfl) (by kernel_rfl)) dInt (fun _ _ => rfl)) (dCons (dIx rfl (dVar 5 (by kernel_rfl) (by kernel_rfl) (by kernel_rfl) (by kernel_rfl)) dInt (fun _ _ => rfl)) (dCons (dVar 3 (by kernel_rfl) (by kernel_rfl) (by kernel_rfl) (by kernel_rfl)) (dCons (dB (call_min2 rfl) fMin2_ok fx.b_min (by kernel_rfl) (by kernel_rfl) (dCons dInt (dCons (dTy cInt fIntA_ok fx.b_int (by kernel_rfl) (by kernel_rfl) (dCons (dAdd rfl (dVar 4 (by kernel_rfl) (by kernel_rfl) (by kernel_rfl) (by kernel_rfl)) dInt) dNil (by kernel_rfl)) (by decide +kernel) (by kernel_rfl) ⟨(by kernel_rfl), (by kernel_rfl)⟩) dNil (by kernel_rfl)) (by kernel_rfl)) (by decide +kernel) (by kernel_rfl) ⟨(by kernel_rfl), (by kernel_rfl)⟩) (dCons (dIx rfl (dVar 5 (by kernel_rfl) (by kernel_rfl) (by kernel_rfl) (by kernel_rfl)) dInt (fun _ _ => rfl)) dNil (by kernel_rfl)) (by kernel_rfl)) (by kernel_rfl)) (by kernel_rfl)) (by kernel_rfl))) sc_law.nd (by kernel_rfl) (by kernel_rfl) (by kernel_rfl) (Or.inl rfl)))
    dSkip)
    (dSeq (dIf (qEq 3 rfl (units64 hr) (dVar 8 (by kernel_rfl) (by kernel_rfl) (by kernel_rfl) (by kernel_rfl)) dInt)
    (dOne (dSet (dTup (dCons (dIx rfl (dVar 5 (by kernel_rfl) (by kernel_rfl) (by kernel_rfl) (by kernel_rfl)) dInt (fun _ _ => rfl)) (dCons (dIx rfl (dVar 5 (by kernel_rfl) (by kernel_rfl) (by kernel_rfl) (by kernel_rfl)) dInt (fun _ _ => rfl)) (dCons (dVar 3 (by kernel_rfl) (by kernel_rfl) (by kernel_rfl) (by kernel_rfl)) (dCons (dVar 4 (by kernel_rfl) (by kernel_rfl) (by kernel_rfl) (by kernel_rfl)) (dCons (dSub dInt (dIx rfl (dVar 5 (by kernel_rfl) (by kernel_rfl) (by kernel_rfl) (by kernel_rfl)) dInt (fun _ _ => rfl))) dNil (by kernel_rfl)) (by kernel_rfl)) (by kernel_rfl)) (by kernel_rfl)) (by kernel_rfl))) sc_law.nd (by kernel_rfl) (by kernel_rfl) (by kernel_rfl) (Or.inl rfl)))
    dSkip)
    (dSeq (dSet (dMake (n := 5) rfl mk_Meeting hr (by decide) tk (dCons (dIx rfl (dVar 7 (by kernel_rfl) (by kernel_rfl) (by kernel_rfl) (by kernel_rfl)) dInt (fun _ _ => rfl)) (dCons (dIx rfl (dVar 7 (by kernel_rfl) (by kernel_rfl) (by kernel_rfl) (by kernel_rfl)) dInt (fun _ _ => rfl)) (dCons (dIx rfl (dVar 7 (by kernel_rfl) (by kernel_rfl) (by kernel_rfl) (by kernel_rfl)) dInt (fun _ _ => rfl)) (dCons (dIx rfl (dVar 7 (by kernel_rfl) (by kernel_rfl) (by kernel_rfl) (by kernel_rfl)) dInt (fun _ _ => rfl)) (dCons (dIx rfl (dVar 7 (by kernel_rfl) (by kernel_rfl) (by kernel_rfl) (by kernel_rfl)) dInt (fun _ _ => rfl)) dNil (by kernel_rfl)) (by kernel_rfl)) (by kernel_rfl)) (by kernel_rfl)) (by kernel_rfl)) (al_cons (al_cons (al_cons (al_cons (al_cons al_nil))))) (by kernel_rfl) (by kernel_rfl) ⟨(by kernel_rfl), (by kernel_rfl)⟩) sc_law.nd (by kernel_rfl) (by kernel_rfl) (by kernel_rfl) (Or.inl rfl))
    (dSeq (dIf (qOr' (qNe 3 rfl (units64 hr) (dEqO rfl oe_Meeting hr (by decide) (dVar 6 (by kernel_rfl) (by kernel_rfl) (by kernel_rfl) (by kernel_rfl)) (dVar 9 (by kernel_rfl) (by kernel_rfl) (by kernel_rfl) (by kernel_rfl))) (dEq 3 rfl (units64 hr) (dVar 5 (by kernel_rfl) (by kernel_rfl) (by kernel_rfl) (by kernel_rfl)) (dVar 7 (by kernel_rfl) (by kernel_rfl) (by kernel_rfl) (by kernel_rfl)))) (qOr1 (qEq 3 rfl (units64 hr) (dNeO rfl oe_Meeting hr (by decide) (dVar 6 (by kernel_rfl) (by kernel_rfl) (by kernel_rfl) (by kernel_rfl)) (dVar 9 (by kernel_rfl) (by kernel_rfl) (by kernel_rfl) (by kernel_rfl))) (dEq 3 rfl (units64 hr) (dVar 5 (by kernel_rfl) (by kernel_rfl) (by kernel_rfl) (by kernel_rfl)) (dVar 7 (by kernel_rfl) (by kernel_rfl) (by kernel_rfl) (by kernel_rfl))))))
    (dOne (dRet dBl))
    dSkip)
    (dSeq (dIf (qOr' (qNotN (dCall (n := 1) rfl c__law_told hr (by decide) tk rfl (dCons (dTup (dCons dStr (dCons dStr (dCons dInt (dCons dInt (dCons dInt dNil (by kernel_rfl)) (by kernel_rfl)) (by kernel_rfl)) (by kernel_rfl)) (by kernel_rfl))) dNil (by kernel_rfl)) (al_cons al_nil) (by kernel_rfl) (by kernel_rfl) ⟨(by kernel_rfl), (by kernel_rfl)⟩)) (qOr1 (qNotN (dCall (n := 1) rfl c__law_told hr (by decide) tk rfl (dCons (dTup (dCons dStr (dCons dStr (dCons dInt (dCons dInt (dCons dInt dNil (by kernel_rfl)) (by kernel_rfl)) (by kernel_rfl)) (by kernel_rfl)) (by kernel_rfl))) dNil (by kernel_rfl)) (al_cons al_nil) (by kernel_rfl) (by kernel_rfl) ⟨(by kernel_rfl), (by kernel_rfl)⟩))))
    (dOne (dRet dBl))
    dSkip)
    (dOne (dRet (dCall (n := 3) rfl c__law_refusals_hold hr (by decide) tk rfl (dCons (dVar 0 (by kernel_rfl) (by kernel_rfl) (by kernel_rfl) (by kernel_rfl)) (dCons (dVar 1 (by kernel_rfl) (by kernel_rfl) (by kernel_rfl) (by kernel_rfl)) (dCons (dVar 5 (by kernel_rfl) (by kernel_rfl) (by kernel_rfl) (by kernel_rfl)) dNil (by kernel_rfl)) (by kernel_rfl)) (by kernel_rfl)) (al_cons (al_cons (al_cons al_nil))) (by kernel_rfl) (by kernel_rfl) ⟨(by kernel_rfl), (by kernel_rfl)⟩))))))))))))))))))
end
end K14

set_option maxHeartbeats 4000000
namespace K14
open PySem L2 ML
theorem start_spec (ns : List Int) (h : Hm) (hr : rd h 0 = some (ns.map U.int)) :
    ∃ a b : Int, 0 ≤ a ∧ m__law_start [.ref 0] h = some (.ok (.ref h.length) (h ++ [.lst [.int a, .int b, .int 1, .int 0]])) := by
  unfold m__law_start mfun b__law_start
  cases ns with
  | nil =>
    simp [ML.mSeq, ML.mSet, ML.mIf, ML.mRet, ML.mVar, ML.mC, ML.mOp, ML.mCB, ML.mCons, ML.mNil, ML.mB, ML.toB, ML.mLst, ML.mTup, ML.mSkip, ML.mSetIx, ML.mTAnd, ML.mTOr, ML.mTNot, ML.mAnd, ML.mOr, ML.mNot, ML.mIfE, ML.mIsN, ML.mBM, ML.mChain, ML.bndS, ML.mRetN, ML.mDrop, ML.mNeg, fLen, hr, cPow, LIM]
  | cons n ns =>
    simp [ML.mSeq, ML.mSet, ML.mIf, ML.mRet, ML.mVar, ML.mC, ML.mOp, ML.mCB, ML.mCons, ML.mNil, ML.mB, ML.toB, ML.mLst, ML.mTup, ML.mSkip, ML.mSetIx, ML.mTAnd, ML.mTOr, ML.mTNot, ML.mAnd, ML.mOr, ML.mNot, ML.mIfE, ML.mIsN, ML.mBM, ML.mChain, ML.bndS, ML.mRetN, ML.mDrop, ML.mNeg, fLen, hr, ev_ix hr (atI_0), cPow, LIM]
    split <;> omega
section
variable {x y z w : U}
theorem at4_0 : atI [x, y, z, w] (0 : Int) = some x := rfl
theorem at4_1 : atI [x, y, z, w] (1 : Int) = some y := rfl
theorem at4_2 : atI [x, y, z, w] (2 : Int) = some z := rfl
theorem at4_3 : atI [x, y, z, w] (3 : Int) = some w := rfl
theorem atI_in {α : Type} {xs : List α} {i : Int} (h0 : 0 ≤ i) (h1 : i < xs.length) : ∃ y ∈ xs, atI xs i = some y := by
  have h2 : i.toNat < xs.length := by omega
  refine ⟨xs[i.toNat], List.getElem_mem h2, ?_⟩
  unfold atI ixN
  rw [if_pos h0, if_pos h1]
  simp [h2]
end
def mixA (a cell d : Int) : Int := (a.fmod 2147483647 * 48271 + cell.fmod 2147483629 + 7 * (d + 1) + 11).fmod 2147483647
def mixR (a d lim : Int) : Int := (((a * 69621 + (d + 1)).fmod 2147483629).fdiv 13).fmod lim
theorem draw_spec (ns : List Int) (h : Hm) (l : Nat) (a b c d lim : Int) (hl0 : 0 ≠ l) (hr : rd h 0 = some (ns.map U.int)) (hl : h[l]? = some (.lst [.int a, .int b, .int c, .int d])) (ha : 0 ≤ a) (hlim : 0 < lim) (hlim2 : lim < 1073741824) :
    ∃ r a' b' c' : Int, 0 ≤ a' ∧ 0 ≤ r ∧ r < lim ∧ m__law_draw [.ref 0, .ref l, .int lim] h = some (.ok (.int r) (h.set l (.lst [.int a', .int b', .int c', .int (d + 1)]))) := by
  have hrd : rd h l = some [.int a, .int b, .int c, .int d] := ev_rdL hl
  have s2 : ∀ c, (h.set l c)[l]? = some c := fun c => by
    rw [List.getElem?_set_self (List.getElem?_eq_some_iff.mp hl).1]
  have s1 : ∀ ws, rd (h.set l (.lst ws)) l = some ws := fun ws => ev_rdL (s2 _)
  have s3 : ∀ c, rd (h.set l c) 0 = some (ns.map U.int) := fun c => by
    rw [← hr]; unfold rd; rw [List.getElem?_set_ne (Ne.symm hl0)]
  have h1 : lim ≠ 0 := by omega
  have h2 : lim.natAbs < 1073741824 := by omega
  have fm0 : ∀ (x : Int) {y : Int}, 0 < y → 0 ≤ x.fmod y := fun x y hy => Int.fmod_nonneg_of_pos x hy
  have fm1 : ∀ (x : Int) {y : Int}, 0 < y → x.fmod y < y := fun x y hy => Int.fmod_lt_of_pos x hy
  by_cases hc : b = 1 ∧ 0 < a
  · obtain ⟨rfl, ha0⟩ := hc
    refine ⟨a.fmod lim, a.fdiv lim, 1, c, Int.fdiv_nonneg ha (by omega), fm0 a hlim, fm1 a hlim, ?_⟩
    unfold m__law_draw mfun b__law_draw
    simp [ML.mSeq, ML.mSet, ML.mIf, ML.mRet, ML.mVar, ML.mC, ML.mOp, ML.mCB, ML.mCons, ML.mNil, ML.mB, ML.toB, ML.mLst, ML.mTup, ML.mSkip, ML.mSetIx, ML.mTAnd, ML.mTOr, ML.mTNot, ML.mAnd, ML.mOr, ML.mNot, ML.mIfE, ML.mIsN, ML.mBM, ML.mChain, ML.bndS, ML.mRetN, ML.mDrop, ML.mNeg, oIx, hrd, s1, s2, s3, hl, at4_0, at4_1, at4_2, at4_3, ixN, ha0, cDivN, h1, h2]
  · have hcell : ∃ cell : Int, ns = [] ∧ cell = 0 ∨ ns ≠ [] ∧ atI (ns.map U.int) (c.fmod ns.length) = some (.int cell) := by
      cases ns with
      | nil => exact ⟨0, .inl ⟨rfl, rfl⟩⟩
      | cons n ns =>
        obtain ⟨y, hy, e⟩ := atI_in (xs := (n :: ns).map U.int) (i := c.fmod ((n :: ns).length : Int)) (fm0 _ (by simp only [List.length_cons]; omega)) (by rw [List.length_map]; exact fm1 _ (by simp only [List.length_cons]; omega))
        obtain ⟨x, _, rfl⟩ := List.mem_map.mp hy
        exact ⟨x, .inr ⟨by simp, e⟩⟩
    obtain ⟨cell, hcell⟩ := hcell
    refine ⟨mixR (mixA a cell d) d lim, mixA a cell d, 0, c + 1, fm0 _ (by decide), fm0 _ hlim, fm1 _ hlim, ?_⟩
    unfold m__law_draw mfun b__law_draw
    rcases hcell with ⟨rfl, rfl⟩ | ⟨hns, hcell⟩
    · by_cases hb1 : b = 1
      · have ha0 : ¬ (0 < a) := fun q => hc ⟨hb1, q⟩
        simp [ML.mSeq, ML.mSet, ML.mIf, ML.mRet, ML.mVar, ML.mC, ML.mOp, ML.mCB, ML.mCons, ML.mNil, ML.mB, ML.toB, ML.mLst, ML.mTup, ML.mSkip, ML.mSetIx, ML.mTAnd, ML.mTOr, ML.mTNot, ML.mAnd, ML.mOr, ML.mNot, ML.mIfE, ML.mIsN, ML.mBM, ML.mChain, ML.bndS, ML.mRetN, ML.mDrop, ML.mNeg, oIx, hrd, s1, s2, s3, hl, at4_0, at4_1, at4_2, at4_3, ixN, hb1, ha0, cDivN, h1, h2, fLen, cMul, mixA, mixR]
      · simp [ML.mSeq, ML.mSet, ML.mIf, ML.mRet, ML.mVar, ML.mC, ML.mOp, ML.mCB, ML.mCons, ML.mNil, ML.mB, ML.toB, ML.mLst, ML.mTup, ML.mSkip, ML.mSetIx, ML.mTAnd, ML.mTOr, ML.mTNot, ML.mAnd, ML.mOr, ML.mNot, ML.mIfE, ML.mIsN, ML.mBM, ML.mChain, ML.bndS, ML.mRetN, ML.mDrop, ML.mNeg, oIx, hrd, s1, s2, s3, hl, at4_0, at4_1, at4_2, at4_3, ixN, hb1, cDivN, h1, h2, fLen, cMul, mixA, mixR]
    · have hlen' : 0 < ns.length := List.length_pos_iff.mpr hns
      have hlen : (0 : Int) < ns.length := by omega
      have hlen2 : ¬ ((ns.length : Int) = 0) := by omega
      by_cases hb1 : b = 1
      · have ha0 : ¬ (0 < a) := fun q => hc ⟨hb1, q⟩
        simp [ML.mSeq, ML.mSet, ML.mIf, ML.mRet, ML.mVar, ML.mC, ML.mOp, ML.mCB, ML.mCons, ML.mNil, ML.mB, ML.toB, ML.mLst, ML.mTup, ML.mSkip, ML.mSetIx, ML.mTAnd, ML.mTOr, ML.mTNot, ML.mAnd, ML.mOr, ML.mNot, ML.mIfE, ML.mIsN, ML.mBM, ML.mChain, ML.bndS, ML.mRetN, ML.mDrop, ML.mNeg, oIx, hrd, s1, s2, s3, hl, at4_0, at4_1, at4_2, at4_3, ixN, hb1, ha0, cDivN, h1, h2, fLen, cMul, mixA, mixR, hcell, hlen', hlen, hlen2, hns]
      · simp [ML.mSeq, ML.mSet, ML.mIf, ML.mRet, ML.mVar, ML.mC, ML.mOp, ML.mCB, ML.mCons, ML.mNil, ML.mB, ML.toB, ML.mLst, ML.mTup, ML.mSkip, ML.mSetIx, ML.mTAnd, ML.mTOr, ML.mTNot, ML.mAnd, ML.mOr, ML.mNot, ML.mIfE, ML.mIsN, ML.mBM, ML.mChain, ML.bndS, ML.mRetN, ML.mDrop, ML.mNeg, oIx, hrd, s1, s2, s3, hl, at4_0, at4_1, at4_2, at4_3, ixN, hb1, cDivN, h1, h2, fLen, cMul, mixA, mixR, hcell, hlen', hlen, hlen2, hns]
theorem seq_nx {a b : MS} {ρ ρ1 : Ev} {h h1 : Hm} (e : a ρ h = some (.nx ρ1 h1)) : mSeq a b ρ h = b ρ1 h1 := by unfold mSeq; rw [e]
/-- the script stands, and the state -/
def Good (ns : List Int) (h : Hm) : Prop := rd h 0 = some (ns.map U.int) ∧ ∃ a b c d : Int, 0 ≤ a ∧ h[1]? = some (.lst [.int a, .int b, .int c, .int d])
theorem drawC {ns : List Int} {h : Hm} (g : Good ns h) (lim : Int) (h1 : 0 < lim) (h2 : lim < 1073741824) : ∃ (r : Int) (h' : Hm), 0 ≤ r ∧ r < lim ∧ Good ns h' ∧ (∀ i, i ≠ 1 → h'[i]? = h[i]?) ∧ h'.length = h.length ∧ m__law_draw [.ref 0, .ref 1, .int lim] h = some (.ok (.int r) h') := by
  obtain ⟨g0, a, b, c, d, ha, g1⟩ := g
  obtain ⟨r, a', b', c', ha', hr0, hr1, e⟩ := draw_spec ns h 1 a b c d lim (by decide) g0 g1 ha h1 h2
  refine ⟨r, _, hr0, hr1, ⟨?_, a', b', c', d + 1, ha', ?_⟩, fun i hi => by rw [List.getElem?_set_ne (Ne.symm hi)], by simp, e⟩
  · rw [← g0]; unfold rd; rw [List.getElem?_set_ne (by decide)]
  · rw [List.getElem?_set_self (List.getElem?_eq_some_iff.mp g1).1]
theorem Good.app {ns : List Int} {h : Hm} (g : Good ns h) (e : Hm) : Good ns (h ++ e) := by
  obtain ⟨g0, a, b, c, d, ha, g1⟩ := g
  have l1 := (List.getElem?_eq_some_iff.mp g1).1
  refine ⟨?_, a, b, c, d, ha, ?_⟩
  · rw [← g0]; unfold rd; rw [List.getElem?_append_left (by omega)]
  · rw [List.getElem?_append_left l1]; exact g1
theorem Good.at_ {ns : List Int} {h h' : Hm} (g : Good ns h) (e0 : h'[0]? = h[0]?) (e1 : h'[1]? = h[1]?) : Good ns h' := by
  obtain ⟨g0, a, b, c, d, ha, g1⟩ := g
  refine ⟨?_, a, b, c, d, ha, by rw [e1]; exact g1⟩
  rw [← g0]; unfold rd; rw [e0]
theorem Good.len {ns : List Int} {h : Hm} (g : Good ns h) : 2 ≤ h.length := by
  obtain ⟨g0, a, b, c, d, ha, g1⟩ := g
  have := (List.getElem?_eq_some_iff.mp g1).1
  omega
def IsSc : U → Prop
  | .non => True
  | .bl _ => True
  | .int _ => True
  | .str s => s.length ≤ LIM
  | _ => False
abbrev LT : Str := "abcdefghijklmnopqrstuvwxyz"
def isLet (c : Nat) : Bool := decide (c ∈ LT.cps.toList)
def nmOk : U → Bool
  | .str s => (decide (1 ≤ s.length) && decide (s.length ≤ 8)) && s.cps.toList.all isLet
  | _ => false
theorem mem_items {s : Str} {w : U} (h : w ∈ sItems s) : ∃ c, w = .str ⟨#[c]⟩ := by
  unfold sItems at h
  obtain ⟨c, _, e⟩ := List.mem_map.mp h
  exact ⟨c, e.symm⟩
def gD : U → U := fun w => match w with
  | .str a => .bl (match a.cps.toList with | [c] => isLet c | _ => false)
  | _ => .non
theorem gD_items (s : Str) : (sItems s).map gD = s.cps.toList.map fun c => U.bl (isLet c) := by
  unfold sItems
  rw [List.map_map]
  rfl
theorem letters_list (s : Str) (hl : s.length ≤ LIM) (h : Hm) : ∃ C b, b = s.cps.toList.all isLet ∧ mLc (iSeq (mVar 0)) (NT.one 1) mYes (mOp (oInA false) (mVar 1) (mC (.str ("abcdefghijklmnopqrstuvwxyz" : Str)))) [1] [some (.str s), none] h = some (.ok (.ref h.length) (h ++ [C])) ∧
    fAll false [.ref h.length] (h ++ [C]) = some (.ok (.bl b) (h ++ [C])) := by
  have hi : iSeq (mVar 0) [some (.str s), none] h = some (.ok (sItems s, fun _ => True) h) := by
    simp [iSeq, mVar, iS]
  have hlc := lc_pure (t := .one 1) (te := mOp (oInA false) (mVar 1) (mC (.str ("abcdefghijklmnopqrstuvwxyz" : Str)))) (vs := [1]) (g := gD) hi (fun _ => trivial) (by simp [sItems]; exact hl) (fun w hw => by
    obtain ⟨c, rfl⟩ := mem_items hw
    refine ⟨_, rfl, fun acc => ?_⟩
    simp [ML.mSeq, ML.mSet, ML.mIf, ML.mRet, ML.mVar, ML.mC, ML.mOp, ML.mCB, ML.mCons, ML.mNil, ML.mB, ML.toB, ML.mLst, ML.mTup, ML.mSkip, ML.mSetIx, ML.mTAnd, ML.mTOr, ML.mTNot, ML.mAnd, ML.mOr, ML.mNot, ML.mIfE, ML.mIsN, ML.mBM, ML.mChain, ML.bndS, ML.mRetN, ML.mDrop, ML.mNeg, wipeE, oInA, oInC, gD, isLet])
  rw [gD_items] at hlc
  have hrd : rd (h ++ [Cell.lst (s.cps.toList.map fun c => U.bl (isLet c))]) h.length = some (s.cps.toList.map fun c => U.bl (isLet c)) := ev_rdL (by simp)
  refine ⟨_, _, rfl, hlc, ?_⟩
  unfold fAll
  simp only [hrd, blsOf_map]
  simp
theorem name_spec (w : U) (hw : IsSc w) (h : Hm) : ∃ e, m_is_name [w] h = some (.ok (.bl (nmOk w)) (h ++ e)) := by
  cases w with
  | str s =>
    have hl : s.length ≤ LIM := hw
    obtain ⟨C, b, hb, hlc, hfa⟩ := letters_list s hl h
    by_cases q1 : 1 ≤ s.length
    · by_cases q2 : s.length ≤ 8
      · refine ⟨[C], ?_⟩
        have h1a : (1 : Int) ≤ s.length := by omega
        have h1b : (s.length : Int) ≤ 8 := by omega
        have hn : nmOk (.str s) = b := by
          show ((decide (1 ≤ s.length) && decide (s.length ≤ 8)) && s.cps.toList.all isLet) = _
          rw [decide_eq_true q1, decide_eq_true q2, ← hb]
          rfl
        rw [hn]
        unfold m_is_name mfun b_is_name
        simp only [List.map_cons, List.map_nil]
        simp [ML.mSeq, ML.mSet, ML.mIf, ML.mRet, ML.mVar, ML.mC, ML.mOp, ML.mCB, ML.mCons, ML.mNil, ML.mB, ML.toB, ML.mLst, ML.mTup, ML.mSkip, ML.mSetIx, ML.mTAnd, ML.mTOr, ML.mTNot, ML.mAnd, ML.mOr, ML.mNot, ML.mIfE, ML.mIsN, ML.mBM, ML.mChain, ML.bndS, ML.mRetN, ML.mDrop, ML.mNeg, mIsi, tyK, tabStr, hl, h1a, h1b, hlc, hfa]
      · refine ⟨[], ?_⟩
        have h1a : (1 : Int) ≤ s.length := by omega
        have h1b : ¬ (s.length : Int) ≤ 8 := by omega
        have hn : nmOk (.str s) = false := by
          show ((decide (1 ≤ s.length) && decide (s.length ≤ 8)) && s.cps.toList.all isLet) = _
          rw [decide_eq_false q2]
          simp
        rw [hn]
        unfold m_is_name mfun b_is_name
        simp [ML.mSeq, ML.mSet, ML.mIf, ML.mRet, ML.mVar, ML.mC, ML.mOp, ML.mCB, ML.mCons, ML.mNil, ML.mB, ML.toB, ML.mLst, ML.mTup, ML.mSkip, ML.mSetIx, ML.mTAnd, ML.mTOr, ML.mTNot, ML.mAnd, ML.mOr, ML.mNot, ML.mIfE, ML.mIsN, ML.mBM, ML.mChain, ML.bndS, ML.mRetN, ML.mDrop, ML.mNeg, mIsi, tyK, tabStr, hl, h1a, h1b]
    · refine ⟨[], ?_⟩
      have h1a : ¬ (1 : Int) ≤ s.length := by omega
      have hn : nmOk (.str s) = false := by
        show ((decide (1 ≤ s.length) && decide (s.length ≤ 8)) && s.cps.toList.all isLet) = _
        rw [decide_eq_false q1]
        simp
      rw [hn]
      unfold m_is_name mfun b_is_name
      simp [ML.mSeq, ML.mSet, ML.mIf, ML.mRet, ML.mVar, ML.mC, ML.mOp, ML.mCB, ML.mCons, ML.mNil, ML.mB, ML.toB, ML.mLst, ML.mTup, ML.mSkip, ML.mSetIx, ML.mTAnd, ML.mTOr, ML.mTNot, ML.mAnd, ML.mOr, ML.mNot, ML.mIfE, ML.mIsN, ML.mBM, ML.mChain, ML.bndS, ML.mRetN, ML.mDrop, ML.mNeg, mIsi, tyK, tabStr, hl, h1a]
  | non => exact ⟨[], by unfold m_is_name mfun b_is_name; simp [ML.mSeq, ML.mSet, ML.mIf, ML.mRet, ML.mVar, ML.mC, ML.mOp, ML.mCB, ML.mCons, ML.mNil, ML.mB, ML.toB, ML.mLst, ML.mTup, ML.mSkip, ML.mSetIx, ML.mTAnd, ML.mTOr, ML.mTNot, ML.mAnd, ML.mOr, ML.mNot, ML.mIfE, ML.mIsN, ML.mBM, ML.mChain, ML.bndS, ML.mRetN, ML.mDrop, ML.mNeg, mIsi, tyK, tabStr, nmOk]⟩
  | bl k => exact ⟨[], by unfold m_is_name mfun b_is_name; simp [ML.mSeq, ML.mSet, ML.mIf, ML.mRet, ML.mVar, ML.mC, ML.mOp, ML.mCB, ML.mCons, ML.mNil, ML.mB, ML.toB, ML.mLst, ML.mTup, ML.mSkip, ML.mSetIx, ML.mTAnd, ML.mTOr, ML.mTNot, ML.mAnd, ML.mOr, ML.mNot, ML.mIfE, ML.mIsN, ML.mBM, ML.mChain, ML.bndS, ML.mRetN, ML.mDrop, ML.mNeg, mIsi, tyK, tabStr, nmOk]⟩
  | int i => exact ⟨[], by unfold m_is_name mfun b_is_name; simp [ML.mSeq, ML.mSet, ML.mIf, ML.mRet, ML.mVar, ML.mC, ML.mOp, ML.mCB, ML.mCons, ML.mNil, ML.mB, ML.toB, ML.mLst, ML.mTup, ML.mSkip, ML.mSetIx, ML.mTAnd, ML.mTOr, ML.mTNot, ML.mAnd, ML.mOr, ML.mNot, ML.mIfE, ML.mIsN, ML.mBM, ML.mChain, ML.bndS, ML.mRetN, ML.mDrop, ML.mNeg, mIsi, tyK, tabStr, nmOk]⟩
  | tup ws => exact absurd hw (by simp [IsSc])
  | ref i => exact absurd hw (by simp [IsSc])
theorem chk_ok (w : U) (hw : IsSc w) (h : Hm) (hn : nmOk w = true) : ∃ e, m_check_name [w] h = some (.ok w (h ++ e)) := by
  obtain ⟨e, he⟩ := name_spec w hw h
  rw [hn] at he
  refine ⟨e, ?_⟩
  unfold m_check_name mfun b_check_name
  simp [ML.mSeq, ML.mSet, ML.mIf, ML.mRet, ML.mVar, ML.mC, ML.mOp, ML.mCB, ML.mCons, ML.mNil, ML.mB, ML.toB, ML.mLst, ML.mTup, ML.mSkip, ML.mSetIx, ML.mTAnd, ML.mTOr, ML.mTNot, ML.mAnd, ML.mOr, ML.mNot, ML.mIfE, ML.mIsN, ML.mBM, ML.mChain, ML.bndS, ML.mRetN, ML.mDrop, ML.mNeg, he]
theorem chk_bad (w : U) (hw : IsSc w) (h : Hm) (hn : nmOk w = false) : ∃ e, m_check_name [w] h = some (.ex 1 [("name", w)] (h ++ e)) := by
  obtain ⟨e, he⟩ := name_spec w hw h
  rw [hn] at he
  refine ⟨e, ?_⟩
  unfold m_check_name mfun b_check_name
  simp [ML.mSeq, ML.mSet, ML.mIf, ML.mRet, ML.mVar, ML.mC, ML.mOp, ML.mCB, ML.mCons, ML.mNil, ML.mB, ML.toB, ML.mLst, ML.mTup, ML.mSkip, ML.mSetIx, ML.mTAnd, ML.mTOr, ML.mTNot, ML.mAnd, ML.mOr, ML.mNot, ML.mIfE, ML.mIsN, ML.mBM, ML.mChain, ML.bndS, ML.mRetN, ML.mDrop, ML.mNeg, he, mRaise, mk1]
theorem ne_self {n : Nat} {w : U} {h : Hm} (hw : IsSc w) : oNe n w w h = some (.ok (.bl false) h) := by
  cases w with
  | tup ws => simp [IsSc] at hw
  | ref i => simp [IsSc] at hw
  | _ => simp [oNe, oEqS, sEq]
def hiOk (i : Int) : U → Bool
  | .int b => decide (i ≤ b)
  | _ => true
def numOk (w : U) (low : Int) (high : U) : Bool := match w with
  | .int i => decide (low ≤ i) && hiOk i high
  | _ => false
def IsHi : U → Prop
  | .int _ => True
  | .non => True
  | _ => False
theorem isint_spec (w : U) (hw : IsSc w) (h : Hm) : m_is_integer [w] h = some (.ok (.bl (match w with | .int _ => true | _ => false)) h) := by
  unfold m_is_integer mfun b_is_integer
  cases w with
  | tup ws => simp [IsSc] at hw
  | ref i => simp [IsSc] at hw
  | _ => simp [ML.mSeq, ML.mSet, ML.mIf, ML.mRet, ML.mVar, ML.mC, ML.mOp, ML.mCB, ML.mCons, ML.mNil, ML.mB, ML.toB, ML.mLst, ML.mTup, ML.mSkip, ML.mSetIx, ML.mTAnd, ML.mTOr, ML.mTNot, ML.mAnd, ML.mOr, ML.mNot, ML.mIfE, ML.mIsN, ML.mBM, ML.mChain, ML.bndS, ML.mRetN, ML.mDrop, ML.mNeg, mIsi, tyK, tabInt, tabBool]
theorem cnum_ok (what : Str) (hwh : what.length ≤ LIM) (w : U) (hw : IsSc w) (low : Int) (high : U) (hh : IsHi high) (h : Hm) (hn : numOk w low high = true) : m_check_number [.str what, w, .int low, high] h = some (.ok w h) := by
  cases w with
  | int i =>
    have e1 := isint_spec (.int i) hw h
    have e2 : m_check_integer [.str what, .int i] h = some (.ok (.int i) h) := by
      unfold m_check_integer mfun b_check_integer
      simp [ML.mSeq, ML.mSet, ML.mIf, ML.mRet, ML.mVar, ML.mC, ML.mOp, ML.mCB, ML.mCons, ML.mNil, ML.mB, ML.toB, ML.mLst, ML.mTup, ML.mSkip, ML.mSetIx, ML.mTAnd, ML.mTOr, ML.mTNot, ML.mAnd, ML.mOr, ML.mNot, ML.mIfE, ML.mIsN, ML.mBM, ML.mChain, ML.bndS, ML.mRetN, ML.mDrop, ML.mNeg, e1]
    simp only [numOk, Bool.and_eq_true, decide_eq_true_eq] at hn
    obtain ⟨h1, h2⟩ := hn
    have h1' : ¬ i < low := by omega
    cases high with
    | int b =>
      simp only [hiOk, decide_eq_true_eq] at h2
      have h2' : ¬ b < i := by omega
      unfold m_check_number mfun b_check_number
      simp [ML.mSeq, ML.mSet, ML.mIf, ML.mRet, ML.mVar, ML.mC, ML.mOp, ML.mCB, ML.mCons, ML.mNil, ML.mB, ML.toB, ML.mLst, ML.mTup, ML.mSkip, ML.mSetIx, ML.mTAnd, ML.mTOr, ML.mTNot, ML.mAnd, ML.mOr, ML.mNot, ML.mIfE, ML.mIsN, ML.mBM, ML.mChain, ML.bndS, ML.mRetN, ML.mDrop, ML.mNeg, e2, h1', h2', ML.isNon]
    | non =>
      unfold m_check_number mfun b_check_number
      simp [ML.mSeq, ML.mSet, ML.mIf, ML.mRet, ML.mVar, ML.mC, ML.mOp, ML.mCB, ML.mCons, ML.mNil, ML.mB, ML.toB, ML.mLst, ML.mTup, ML.mSkip, ML.mSetIx, ML.mTAnd, ML.mTOr, ML.mTNot, ML.mAnd, ML.mOr, ML.mNot, ML.mIfE, ML.mIsN, ML.mBM, ML.mChain, ML.bndS, ML.mRetN, ML.mDrop, ML.mNeg, e2, h1', ML.isNon]
    | _ => simp [IsHi] at hh
  | _ => simp [numOk] at hn
theorem cnum_bad (what : Str) (hwh : what.length ≤ LIM) (w : U) (hw : IsSc w) (low : Int) (high : U) (hh : IsHi high) (h : Hm) (hn : numOk w low high = false) : m_check_number [.str what, w, .int low, high] h = some (.ex 2 [("value", w), ("what", .str what)] h) := by
  have e1 := isint_spec w hw h
  cases w with
  | int i =>
    have e2 : m_check_integer [.str what, .int i] h = some (.ok (.int i) h) := by
      unfold m_check_integer mfun b_check_integer
      simp [ML.mSeq, ML.mSet, ML.mIf, ML.mRet, ML.mVar, ML.mC, ML.mOp, ML.mCB, ML.mCons, ML.mNil, ML.mB, ML.toB, ML.mLst, ML.mTup, ML.mSkip, ML.mSetIx, ML.mTAnd, ML.mTOr, ML.mTNot, ML.mAnd, ML.mOr, ML.mNot, ML.mIfE, ML.mIsN, ML.mBM, ML.mChain, ML.bndS, ML.mRetN, ML.mDrop, ML.mNeg, e1]
    by_cases h1 : i < low
    · unfold m_check_number mfun b_check_number
      simp [ML.mSeq, ML.mSet, ML.mIf, ML.mRet, ML.mVar, ML.mC, ML.mOp, ML.mCB, ML.mCons, ML.mNil, ML.mB, ML.toB, ML.mLst, ML.mTup, ML.mSkip, ML.mSetIx, ML.mTAnd, ML.mTOr, ML.mTNot, ML.mAnd, ML.mOr, ML.mNot, ML.mIfE, ML.mIsN, ML.mBM, ML.mChain, ML.bndS, ML.mRetN, ML.mDrop, ML.mNeg, e2, h1, mRaise, mk2s, hwh]
    · have h1' : low ≤ i := by omega
      cases high with
      | int b =>
        have h2 : b < i := by
          simp only [numOk, hiOk, decide_eq_true h1', Bool.true_and, decide_eq_false_iff_not] at hn
          omega
        unfold m_check_number mfun b_check_number
        simp [ML.mSeq, ML.mSet, ML.mIf, ML.mRet, ML.mVar, ML.mC, ML.mOp, ML.mCB, ML.mCons, ML.mNil, ML.mB, ML.toB, ML.mLst, ML.mTup, ML.mSkip, ML.mSetIx, ML.mTAnd, ML.mTOr, ML.mTNot, ML.mAnd, ML.mOr, ML.mNot, ML.mIfE, ML.mIsN, ML.mBM, ML.mChain, ML.bndS, ML.mRetN, ML.mDrop, ML.mNeg, e2, h1, h2, ML.isNon, mRaise, mk2s, hwh]
      | non => simp [numOk, hiOk, h1'] at hn
      | _ => simp [IsHi] at hh
  | tup ws => simp [IsSc] at hw
  | ref i => simp [IsSc] at hw
  | _ =>
    unfold m_check_number mfun b_check_number m_check_integer mfun b_check_integer
    simp only at e1
    simp [ML.mSeq, ML.mSet, ML.mIf, ML.mRet, ML.mVar, ML.mC, ML.mOp, ML.mCB, ML.mCons, ML.mNil, ML.mB, ML.toB, ML.mLst, ML.mTup, ML.mSkip, ML.mSetIx, ML.mTAnd, ML.mTOr, ML.mTNot, ML.mAnd, ML.mOr, ML.mNot, ML.mIfE, ML.mIsN, ML.mBM, ML.mChain, ML.bndS, ML.mRetN, ML.mDrop, ML.mNeg, e1, mRaise, mk2s, hwh]
end K14

set_option maxHeartbeats 4000000
namespace K14
open PySem L2 ML
theorem get_mid {h e : Hm} {x : Cell} : (h ++ [x] ++ e)[h.length]? = some x := by
  rw [List.append_assoc, List.getElem?_append_right (Nat.le_refl _)]; simp
theorem set_mid {h e : Hm} {x y : Cell} : (h ++ [x] ++ e).set h.length y = h ++ [y] ++ e := by
  rw [List.append_assoc, List.set_append_right _ _ (Nat.le_refl _)]
  simp
theorem setf {ex : ME} {f : Str} {ok : Nat → Bool} {ρ : Ev} {h e e' : Hm} {fs : List (Str × U)} {w : U} (he : ex ρ (h ++ [.ins 3 fs] ++ e) = some (.ok w (h ++ [.ins 3 fs] ++ e'))) (h0 : ρ[0]? = some (some (.ref h.length))) (hok : ok 3 = true) (hl : fs.length < 900) :
    mSetAt f ok (mVar 0) ex ρ (h ++ [.ins 3 fs] ++ e) = some (.nx ρ (h ++ [.ins 3 (fput f w fs)] ++ e')) := by
  unfold mSetAt
  rw [he]
  have hv : mVar 0 ρ (h ++ [.ins 3 fs] ++ e') = some (.ok (.ref h.length) (h ++ [.ins 3 fs] ++ e')) := by simp [mVar, h0]
  simp only [bndS_ok, hv, get_mid, hok, hl, decide_true, Bool.and_self, if_true]
  rw [set_mid]
theorem setf_ex {ex : ME} {f : Str} {ok : Nat → Bool} {ρ : Ev} {h h' : Hm} {c : Nat} {fs : List (Str × U)} (he : ex ρ h = some (.ex c fs h')) : mSetAt f ok (mVar 0) ex ρ h = some (.ex c fs ρ h') := by
  unfold mSetAt
  rw [he]
  rfl
theorem seq_ex {a b : MS} {ρ ρ1 : Ev} {h h1 : Hm} {c : Nat} {fs : List (Str × U)} (e : a ρ h = some (.ex c fs ρ1 h1)) : mSeq a b ρ h = some (.ex c fs ρ1 h1) := by unfold mSeq; rw [e]
def loOf : U → Int
  | .int i => i
  | _ => 0
def tellOf (a b c d e : U) : U := if nmOk a = false then .tup [.str "name", a] else if nmOk b = false then .tup [.str "name", b] else if numOk c 0 (.int 2880) = false then .tup [.str "opens", c] else
  if numOk d (loOf c) (.int 2880) = false then .tup [.str "latest", d] else if numOk e 0 (.int 600) = false then .tup [.str "length", e] else .non
def fs5 (a b c d e : U) : List (Str × U) := [("name", a), ("place", b), ("opens", c), ("latest", d), ("length", e)]
theorem f1 (a b : U) : fput "place" b (fput "name" a []) = ([("name", a), ("place", b)] : List (Str × U)) := by
  simp only [fput]
  rw [if_neg (by decide +kernel)]
theorem f2 (a b c : U) : fput "opens" c [("name", a), ("place", b)] = ([("name", a), ("place", b), ("opens", c)] : List (Str × U)) := by
  simp only [fput]
  rw [if_neg (by decide +kernel), if_neg (by decide +kernel)]
theorem f3 (a b c d : U) : fput "latest" d [("name", a), ("place", b), ("opens", c)] = ([("name", a), ("place", b), ("opens", c), ("latest", d)] : List (Str × U)) := by
  simp only [fput]
  rw [if_neg (by decide +kernel), if_neg (by decide +kernel), if_neg (by decide +kernel)]
theorem f4 (a b c d e : U) : fput "length" e [("name", a), ("place", b), ("opens", c), ("latest", d)] = fs5 a b c d e := by
  simp only [fput]
  rw [if_neg (by decide +kernel), if_neg (by decide +kernel), if_neg (by decide +kernel), if_neg (by decide +kernel)]
  rfl
/-- what the constructor does with five scalars -/
def InitOut (a b c d e : U) (h : Hm) (r : Option Sz) : Prop :=
  (tellOf a b c d e = .non ∧ ∃ ρ E, r = some (.nx ρ (h ++ [.ins 3 (fs5 a b c d e)] ++ E))) ∨
  (∃ x ρ h', tellOf a b c d e = .tup [.str "name", x] ∧ IsSc x ∧ r = some (.ex 1 [("name", x)] ρ (h ++ h'))) ∨
  (∃ what x ρ h', tellOf a b c d e = .tup [.str what, x] ∧ IsSc x ∧ r = some (.ex 2 [("value", x), ("what", .str what)] ρ (h ++ h')))
theorem times_1 {c d e : U} (hc : IsSc c) {h : Hm} (q3 : numOk c 0 (.int 2880) = false) : m_check_times [c, d, e] h = some (.ex 2 [("value", c), ("what", .str ("opens" : Str))] h) := by
  refine fun_x (ρ1 := [some c, some d, some e]) rfl ?_
  unfold b_check_times
  exact seq_x (drop_x (cb_e (cons_e c_e (cons_e (var_e rfl) (cons_e c_e (cons_e c_e nil_e)))) (cnum_bad "opens" (by decide +kernel) c hc 0 (.int 2880) trivial h q3)))
theorem times_2 {i : Int} {d e : U} (hd : IsSc d) {h : Hm} (q3 : numOk (.int i) 0 (.int 2880) = true) (q4 : numOk d i (.int 2880) = false) : m_check_times [.int i, d, e] h = some (.ex 2 [("value", d), ("what", .str ("latest" : Str))] h) := by
  refine fun_x (ρ1 := [some (.int i), some d, some e]) rfl ?_
  unfold b_check_times
  refine (seq_n (drop_s (cb_e (cons_e c_e (cons_e (var_e rfl) (cons_e c_e (cons_e c_e nil_e)))) (cnum_ok "opens" (by decide +kernel) (.int i) trivial 0 (.int 2880) trivial h q3)))).trans ?_
  exact seq_x (drop_x (cb_e (cons_e c_e (cons_e (var_e rfl) (cons_e (var_e rfl) (cons_e c_e nil_e)))) (cnum_bad "latest" (by decide +kernel) d hd i (.int 2880) trivial h q4)))
theorem times_3 {i : Int} {d e : U} (hd : IsSc d) (he : IsSc e) {h : Hm} (q3 : numOk (.int i) 0 (.int 2880) = true) (q4 : numOk d i (.int 2880) = true) (q5 : numOk e 0 (.int 600) = false) : m_check_times [.int i, d, e] h = some (.ex 2 [("value", e), ("what", .str ("length" : Str))] h) := by
  refine fun_x (ρ1 := [some (.int i), some d, some e]) rfl ?_
  unfold b_check_times
  refine (seq_n (drop_s (cb_e (cons_e c_e (cons_e (var_e rfl) (cons_e c_e (cons_e c_e nil_e)))) (cnum_ok "opens" (by decide +kernel) (.int i) trivial 0 (.int 2880) trivial h q3)))).trans ?_
  refine (seq_n (drop_s (cb_e (cons_e c_e (cons_e (var_e rfl) (cons_e (var_e rfl) (cons_e c_e nil_e)))) (cnum_ok "latest" (by decide +kernel) d hd i (.int 2880) trivial h q4)))).trans ?_
  exact drop_x (cb_e (cons_e c_e (cons_e (var_e rfl) (cons_e c_e (cons_e c_e nil_e)))) (cnum_bad "length" (by decide +kernel) e he 0 (.int 600) trivial h q5))
theorem times_ok {i : Int} {d e : U} (hd : IsSc d) (he : IsSc e) {h : Hm} (q3 : numOk (.int i) 0 (.int 2880) = true) (q4 : numOk d i (.int 2880) = true) (q5 : numOk e 0 (.int 600) = true) : m_check_times [.int i, d, e] h = some (.ok .non h) := by
  refine fun_n (ρ1 := [some (.int i), some d, some e]) rfl ?_
  unfold b_check_times
  refine (seq_n (drop_s (cb_e (cons_e c_e (cons_e (var_e rfl) (cons_e c_e (cons_e c_e nil_e)))) (cnum_ok "opens" (by decide +kernel) (.int i) trivial 0 (.int 2880) trivial h q3)))).trans ?_
  refine (seq_n (drop_s (cb_e (cons_e c_e (cons_e (var_e rfl) (cons_e (var_e rfl) (cons_e c_e nil_e)))) (cnum_ok "latest" (by decide +kernel) d hd i (.int 2880) trivial h q4)))).trans ?_
  exact drop_s (cb_e (cons_e c_e (cons_e (var_e rfl) (cons_e c_e (cons_e c_e nil_e)))) (cnum_ok "length" (by decide +kernel) e he 0 (.int 600) trivial h q5))
theorem init_body (a b c d e : U) (ha : IsSc a) (hb : IsSc b) (hc : IsSc c) (hd : IsSc d) (he : IsSc e) (h : Hm) :
    InitOut a b c d e h (b_Meeting___init__ [some (.ref h.length), some a, some b, some c, some d, some e] (h ++ [.ins 3 []] ++ [])) := by
  unfold b_Meeting___init__
  by_cases q1 : nmOk a = true
  · obtain ⟨e1, s1⟩ := chk_ok a ha (h ++ [.ins 3 []] ++ []) q1
    rw [List.append_assoc (h ++ [Cell.ins 3 []])] at s1
    rw [seq_nx (setf (e' := [] ++ e1) (w := a) s1 rfl rfl (by simp))]
    by_cases q2 : nmOk b = true
    · obtain ⟨e2, s2⟩ := chk_ok b hb (h ++ [.ins 3 (fput "name" a [])] ++ ([] ++ e1)) q2
      rw [List.append_assoc (h ++ [Cell.ins 3 (fput "name" a [])])] at s2
      rw [seq_nx (setf (e' := [] ++ e1 ++ e2) (w := b) s2 rfl rfl (by simp [fput])), f1]
      generalize [] ++ e1 ++ e2 = E
      have args : ∀ H : Hm, mCons (mVar 3) (mCons (mVar 4) (mCons (mVar 5) mNil)) [some (.ref h.length), some a, some b, some c, some d, some e] H = some (.ok [c, d, e] H) := fun H => cons_e (var_e rfl) (cons_e (var_e rfl) (cons_e (var_e rfl) nil_e))
      by_cases q3 : numOk c 0 (.int 2880) = true
      · have hci : ∃ i, c = .int i := by
          cases c <;> first | exact ⟨_, rfl⟩ | (simp [numOk] at q3; done)
        obtain ⟨i, rfl⟩ := hci
        by_cases q4 : numOk d i (.int 2880) = true
        · by_cases q5 : numOk e 0 (.int 600) = true
          · rw [seq_nx (drop_s (cb_e (args _) (times_ok hd he q3 q4 q5)))]
            rw [seq_nx (setf (e' := E) (w := .int i) (var_e rfl) rfl rfl (by simp)), f2]
            rw [seq_nx (setf (e' := E) (w := d) (var_e rfl) rfl rfl (by simp)), f3]
            rw [setf (e' := E) (w := e) (var_e rfl) rfl rfl (by simp), f4]
            exact .inl ⟨by simp [tellOf, q1, q2, q3, q4, q5, loOf], _, _, rfl⟩
          · have q5 : numOk e 0 (.int 600) = false := by simpa using q5
            rw [seq_ex (drop_x (cb_e (args _) (times_3 hd he q3 q4 q5)))]
            exact .inr (.inr ⟨"length", e, _, _, by simp [tellOf, q1, q2, q3, q4, q5, loOf], he, by rw [List.append_assoc]⟩)
        · have q4 : numOk d i (.int 2880) = false := by simpa using q4
          rw [seq_ex (drop_x (cb_e (args _) (times_2 hd q3 q4)))]
          exact .inr (.inr ⟨"latest", d, _, _, by simp [tellOf, q1, q2, q3, q4, loOf], hd, by rw [List.append_assoc]⟩)
      · have q3 : numOk c 0 (.int 2880) = false := by simpa using q3
        rw [seq_ex (drop_x (cb_e (args _) (times_1 hc q3)))]
        exact .inr (.inr ⟨"opens", c, _, _, by simp [tellOf, q1, q2, q3], hc, by rw [List.append_assoc]⟩)
    · have q2 : nmOk b = false := by simpa using q2
      obtain ⟨e2, s2⟩ := chk_bad b hb (h ++ [.ins 3 (fput "name" a [])] ++ ([] ++ e1)) q2
      rw [seq_ex (setf_ex s2)]
      exact .inr (.inl ⟨b, _, _, by simp [tellOf, q1, q2], hb, by rw [List.append_assoc, List.append_assoc]⟩)
  · have q1 : nmOk a = false := by simpa using q1
    obtain ⟨e1, s1⟩ := chk_bad a ha (h ++ [.ins 3 []] ++ []) q1
    rw [seq_ex (setf_ex s1)]
    exact .inr (.inl ⟨a, _, _, by simp [tellOf, q1], ha, by rw [List.append_assoc, List.append_assoc]⟩)
end K14

set_option maxHeartbeats 4000000
namespace K14
open PySem L2 ML
abbrev args5 (i : Nat) : MA := (mCons (mOp oIx (mVar i) (mC (.int 0))) (mCons (mOp oIx (mVar i) (mC (.int 1))) (mCons (mOp oIx (mVar i) (mC (.int 2))) (mCons (mOp oIx (mVar i) (mC (.int 3))) (mCons (mOp oIx (mVar i) (mC (.int 4))) mNil)))))
theorem args_ok {i : Nat} {ρ : Ev} {a b c d e : U} (hρ : ρ[i]? = some (some (.tup [a, b, c, d, e]))) (h : Hm) : args5 i ρ h = some (.ok [a, b, c, d, e] h) := by
  simp [args5, mCons, mNil, mOp, mVar, mC, hρ, oIx, atI, ixN]
/-- Meeting(..) -/
theorem make_out {i : Nat} {ρ : Ev} {a b c d e : U} (hρ : ρ[i]? = some (some (.tup [a, b, c, d, e]))) (ha : IsSc a) (hb : IsSc b) (hc : IsSc c) (hd : IsSc d) (he : IsSc e) (h : Hm) :
    (tellOf a b c d e = .non ∧ ∃ E, mMake 3 m_Meeting___init__ (args5 i) ρ h = some (.ok (.ref h.length) (h ++ [.ins 3 (fs5 a b c d e)] ++ E))) ∨
    (∃ x E, tellOf a b c d e = .tup [.str "name", x] ∧ IsSc x ∧ mMake 3 m_Meeting___init__ (args5 i) ρ h = some (.ex 1 [("name", x)] (h ++ E))) ∨
    (∃ what x E, tellOf a b c d e = .tup [.str what, x] ∧ IsSc x ∧ mMake 3 m_Meeting___init__ (args5 i) ρ h = some (.ex 2 [("value", x), ("what", .str what)] (h ++ E))) := by
  have q := init_body a b c d e ha hb hc hd he h
  rw [List.append_nil] at q
  have hm : ∀ r, b_Meeting___init__ [some (.ref h.length), some a, some b, some c, some d, some e] (h ++ [.ins 3 []]) = r → mMake 3 m_Meeting___init__ (args5 i) ρ h = bnd (match r with
      | some (.nx _ h1) => some (.ok .non h1)
      | some (.rt w h1) => some (.ok w h1)
      | some (.ex c fs _ h1) => some (.ex c fs h1)
      | _ => none) (mkEnd h.length) := fun r er => by
    unfold mMake
    rw [args_ok hρ]
    simp only [bnd_ok]
    rw [← er]
    rfl
  rcases q with ⟨t, ρ', E, er⟩ | ⟨x, ρ', E, t, sx, er⟩ | ⟨what, x, ρ', E, t, sx, er⟩
  · exact .inl ⟨t, E, by rw [hm _ er]; rfl⟩
  · exact .inr (.inl ⟨x, E, t, sx, by rw [hm _ er]; rfl⟩)
  · exact .inr (.inr ⟨what, x, E, t, sx, by rw [hm _ er]; rfl⟩)
theorem told (a b c d e : U) (ha : IsSc a) (hb : IsSc b) (hc : IsSc c) (hd : IsSc d) (he : IsSc e) (h : Hm) : ∃ E, m__law_told [.tup [a, b, c, d, e]] h = some (.ok (tellOf a b c d e) (h ++ E)) := by
  have hwv : ¬ (("what" : Str) = "value") := by decide +kernel
  have h2L : 2 ≤ LIM := by decide
  rcases make_out (i := 0) (ρ := [some (.tup [a, b, c, d, e]), none]) rfl ha hb hc hd he h with ⟨t, E, er⟩ | ⟨x, E, t, sx, er⟩ | ⟨what, x, E, t, sx, er⟩
  · rw [t]
    refine ⟨[.ins 3 (fs5 a b c d e)] ++ E, ?_⟩
    rw [← List.append_assoc]
    generalize h ++ [Cell.ins 3 (fs5 a b c d e)] ++ E = H2 at *
    unfold m__law_told mfun b__law_told
    show (match (mSeq (mTryN _ (mDrop (mMake 3 m_Meeting___init__ (args5 0)))) (mRet (mC .non))) [some (.tup [a, b, c, d, e]), none] h with
      | some (.nx _ h1) => some (Rz.ok U.non h1)
      | some (.rt w h1) => some (Rz.ok w h1)
      | some (.ex c fs _ h1) => some (Rz.ex c fs h1)
      | _ => none) = _
    generalize mMake 3 m_Meeting___init__ (args5 0) = M at *
    simp [ML.mSeq, ML.mSet, ML.mIf, ML.mRet, ML.mVar, ML.mC, ML.mOp, ML.mCB, ML.mCons, ML.mNil, ML.mB, ML.toB, ML.mLst, ML.mTup, ML.mSkip, ML.mSetIx, ML.mTAnd, ML.mTOr, ML.mTNot, ML.mAnd, ML.mOr, ML.mNot, ML.mIfE, ML.mIsN, ML.mBM, ML.mChain, ML.bndS, ML.mRetN, ML.mDrop, ML.mNeg, mTryN, er]
  · rw [t]
    refine ⟨E ++ [.exc 1 [("name", x)]], ?_⟩
    unfold m__law_told mfun b__law_told
    show (match (mSeq (mTryN [⟨tk_BadName, 1, (mRet (mTup (mCons (mC (.str ("name" : Str))) (mCons (mAttrX ("name" : Str) at_name_i at_name_e (mVar 1)) mNil))))⟩, ⟨tk_BadNumber, 1, (mRet (mTup (mCons (mAttrX ("what" : Str) at_what_i at_what_e (mVar 1)) (mCons (mAttrX ("value" : Str) at_value_i at_value_e (mVar 1)) mNil))))⟩] (mDrop (mMake 3 m_Meeting___init__ (args5 0)))) (mRet (mC .non))) [some (.tup [a, b, c, d, e]), none] h with
      | some (.nx _ h1) => some (Rz.ok U.non h1)
      | some (.rt w h1) => some (Rz.ok w h1)
      | some (.ex c fs _ h1) => some (Rz.ex c fs h1)
      | _ => none) = _
    generalize mMake 3 m_Meeting___init__ (args5 0) = M at *
    rw [← List.append_assoc]
    have hcell : (h ++ E ++ [Cell.exc 1 [("name", x)]])[(h ++ E).length]? = some (.exc 1 [("name", x)]) := by simp
    generalize h ++ E = H1 at *
    simp [ML.mSeq, ML.mSet, ML.mIf, ML.mRet, ML.mVar, ML.mC, ML.mOp, ML.mCB, ML.mCons, ML.mNil, ML.mB, ML.toB, ML.mLst, ML.mTup, ML.mSkip, ML.mSetIx, ML.mTAnd, ML.mTOr, ML.mTNot, ML.mAnd, ML.mOr, ML.mNot, ML.mIfE, ML.mIsN, ML.mBM, ML.mChain, ML.bndS, ML.mRetN, ML.mDrop, ML.mNeg, mTryN, er, catchN, tk_BadName, tryEnd, mAttrX, hcell, at_name_e, fget, h2L]
  · rw [t]
    refine ⟨E ++ [.exc 2 [("value", x), ("what", .str what)]], ?_⟩
    unfold m__law_told mfun b__law_told
    show (match (mSeq (mTryN [⟨tk_BadName, 1, (mRet (mTup (mCons (mC (.str ("name" : Str))) (mCons (mAttrX ("name" : Str) at_name_i at_name_e (mVar 1)) mNil))))⟩, ⟨tk_BadNumber, 1, (mRet (mTup (mCons (mAttrX ("what" : Str) at_what_i at_what_e (mVar 1)) (mCons (mAttrX ("value" : Str) at_value_i at_value_e (mVar 1)) mNil))))⟩] (mDrop (mMake 3 m_Meeting___init__ (args5 0)))) (mRet (mC .non))) [some (.tup [a, b, c, d, e]), none] h with
      | some (.nx _ h1) => some (Rz.ok U.non h1)
      | some (.rt w h1) => some (Rz.ok w h1)
      | some (.ex c fs _ h1) => some (Rz.ex c fs h1)
      | _ => none) = _
    generalize mMake 3 m_Meeting___init__ (args5 0) = M at *
    rw [← List.append_assoc]
    have hcell : (h ++ E ++ [Cell.exc 2 [("value", x), ("what", .str what)]])[(h ++ E).length]? = some (.exc 2 [("value", x), ("what", .str what)]) := by simp
    generalize h ++ E = H1 at *
    simp [ML.mSeq, ML.mSet, ML.mIf, ML.mRet, ML.mVar, ML.mC, ML.mOp, ML.mCB, ML.mCons, ML.mNil, ML.mB, ML.toB, ML.mLst, ML.mTup, ML.mSkip, ML.mSetIx, ML.mTAnd, ML.mTOr, ML.mTNot, ML.mAnd, ML.mOr, ML.mNot, ML.mIfE, ML.mIsN, ML.mBM, ML.mChain, ML.bndS, ML.mRetN, ML.mDrop, ML.mNeg, mTryN, er, catchN, tk_BadName, tk_BadNumber, tryEnd, mAttrX, hcell, at_what_e, at_value_e, fget, hwv, h2L]
end K14

set_option maxHeartbeats 4000000
namespace K14
open PySem L2 ML
def SOk : U → Prop
  | .str s => PyData.strOk s = true
  | _ => True
theorem dW_sc {f : Nat → Option PyData} {w : U} (hw : IsSc w) (hs : SOk w) : ∃ d, dW f w = some d ∧ PyData.canLay0 d = true ∧ PyData.depth d = 0 ∧ PyData.eqv d d = true := by
  cases w with
  | tup ws => simp [IsSc] at hw
  | ref i => simp [IsSc] at hw
  | non => exact ⟨.none, rfl, rfl, rfl, rfl⟩
  | bl b => exact ⟨.bool b, rfl, rfl, rfl, by simp [PyData.eqv]⟩
  | int i => exact ⟨.int i, rfl, rfl, rfl, by simp [PyData.eqv]⟩
  | str s => exact ⟨.str s, rfl, hs, rfl, by simp [PyData.eqv]⟩
theorem ne_tup2 {word : Str} {w : U} {h : Hm} (h1 : PyData.strOk word = true) (hw : IsSc w) (hs : SOk w) : oNe 3 (.tup [.str word, w]) (.tup [.str word, w]) h = some (.ok (.bl false) h) := by
  obtain ⟨d, e1, e2, e3, e4⟩ := dW_sc (f := dR 3 h) hw hs
  simp [oNe, oEqS, sEq, oEqD, dW, dWs, e1, SeqAt.shaped, PyData.canLay0, PyData.canLayAll0, PyData.depth, PyData.depthAll, PyData.eqv, PyData.eqvAll, h1, e2, e3, e4]
end K14

set_option maxHeartbeats 4000000
namespace K14
open PySem L2 ML
theorem Good.len2 {ns : List Int} {h : Hm} (g : Good ns h) : 2 ≤ h.length := g.len
/-- [..][draw] -/
theorem pick {ns : List Int} {h : Hm} (g : Good ns h) {ρ : Ev} {M : ME} {us : List U} (eM : M ρ h = some (.ok (.ref h.length) (h ++ [.lst us]))) {n : Nat} (hn : us.length = n) (h0 : 0 < n) (h1 : n < 1000) (q0 : ρ[0]? = some (some (.ref 0))) (q1 : ρ[1]? = some (some (.ref 1))) :
    ∃ w h', w ∈ us ∧ mOp oIx M (mCB m__law_draw (mCons (mVar 0) (mCons (mVar 1) (mCons (mC (.int (n : Int))) mNil)))) ρ h = some (.ok w h') ∧ Good ns h' ∧ (∀ i, i ≠ 1 → i < h.length → h'[i]? = h[i]?) ∧ h.length ≤ h'.length := by
  have hg := g.len
  obtain ⟨r, h', r0, r1, g', k', l', e⟩ := drawC (g.app [.lst us]) (n : Int) (by omega) (by omega)
  obtain ⟨w, hw, ew⟩ := atI_in (xs := us) (i := r) r0 (by rw [hn]; exact r1)
  have rd' : rd h' h.length = some us := ev_rdL (by rw [k' _ (by omega)]; simp)
  refine ⟨w, h', hw, ?_, g', fun i i1 i2 => by rw [k' i i1, List.getElem?_append_left i2], by rw [l']; simp⟩
  unfold mOp
  rw [eM]
  simp only [bnd_ok]
  have ea : mCB m__law_draw (mCons (mVar 0) (mCons (mVar 1) (mCons (mC (.int (n : Int))) mNil))) ρ (h ++ [.lst us]) = some (.ok (.int r) h') := by
    simp [mCB, mCons, mNil, mVar, mC, q0, q1, e]
  rw [ea]
  simp only [bnd_ok]
  exact ev_ix rd' ew
noncomputable abbrev bodyR : MS := (mIf (mB (mOp (oNe 3) (mCB m__law_told (mCons (mOp oAdd (mOp oAdd (mSl oSl (mVar 2) mNoPart (mPart (mVar 7))) (mTup (mCons (mVar 8) mNil))) (mVar 9)) mNil)) (mTup (mCons (mOp oIx (mVar 4) (mVar 7)) (mCons (mVar 8) mNil)))))
    (mRet (mC (.bl false)))
    mSkip)
def wordOf : Nat → Str
  | 0 => "name"
  | 1 => "name"
  | 2 => "opens"
  | 3 => "latest"
  | _ => "length"
def wordsL : List U := [.str "name", .str "name", .str "opens", .str "latest", .str "length"]
theorem word_ok (k : Nat) : PyData.strOk (wordOf k) = true := by
  rcases k with _ | _ | _ | _ | k <;> (simp only [wordOf]; decide +kernel)
/-- one row that is wrong at k -/
theorem row_turn {h : Hm} {k W : Nat} (hk : k < 5) (hW : h[W]? = some (.lst wordsL)) {w : U} (hw : IsSc w) (hs : SOk w) {rs pre post : List U} {a b c d e : U} (er : rs.length = 5) (ep : cut rs none (some (k : Int)) = pre) (eq : pre ++ [w] ++ post = [a, b, c, d, e]) (hp : pre.length ≤ 5)
    (ha : IsSc a) (hb : IsSc b) (hc : IsSc c) (hd : IsSc d) (he : IsSc e) (ht : tellOf a b c d e = .tup [.str (wordOf k), w]) (o0 o1 o3 o5 o6 : Option U) :
    ∃ E, bodyR [o0, o1, some (.tup rs), o3, some (.ref W), o5, o6, some (.int (k : Int)), some w, some (.tup post)] h = some (.nx [o0, o1, some (.tup rs), o3, some (.ref W), o5, o6, some (.int (k : Int)), some w, some (.tup post)] (h ++ E)) := by
  obtain ⟨E, et⟩ := told a b c d e ha hb hc hd he h
  rw [ht] at et
  refine ⟨E, ?_⟩
  have h1L : 1 ≤ LIM := by decide
  have h2L : 2 ≤ LIM := by decide
  have hsl : ∀ h', oSl (.tup rs) none (some (k : Int)) h' = some (.ok (.tup pre) h') := fun h' => by
    rw [← ep]; rfl
  have hlen : pre.length + 1 + post.length = 5 := by
    have := congrArg List.length eq
    simp at this
    omega
  have ad1 : ∀ h', oAdd (.tup pre) (.tup [w]) h' = some (.ok (.tup (pre ++ [w])) h') := fun h' => by
    unfold oAdd
    simp only [oI0, oAddS, oAddL, oAddT2]
    rw [if_pos (by show _ ≤ 1000000; simp; omega)]
  have ad2 : ∀ h', oAdd (.tup (pre ++ [w])) (.tup post) h' = some (.ok (.tup [a, b, c, d, e]) h') := fun h' => by
    unfold oAdd
    simp only [oI0, oAddS, oAddL, oAddT2]
    rw [if_pos (by show _ ≤ 1000000; simp; omega), eq]
  have hW2 := List.getElem?_append_left (l₂ := E) (List.getElem?_eq_some_iff.mp hW).1
  rw [hW] at hW2
  have hix : oIx (.ref W) (.int (k : Int)) (h ++ E) = some (.ok (.str (wordOf k)) (h ++ E)) := by
    refine ev_ix (ev_rdL hW2) ?_
    rcases (show k = 0 ∨ k = 1 ∨ k = 2 ∨ k = 3 ∨ k = 4 by omega) with rfl | rfl | rfl | rfl | rfl <;> rfl
  have hne := ne_tup2 (h := h ++ E) (word_ok k) hw hs
  generalize wordOf k = wd at *
  generalize h ++ E = H2 at *
  unfold bodyR
  simp [ML.mSeq, ML.mSet, ML.mIf, ML.mRet, ML.mVar, ML.mC, ML.mOp, ML.mCB, ML.mCons, ML.mNil, ML.mB, ML.toB, ML.mLst, ML.mTup, ML.mSkip, ML.mSetIx, ML.mTAnd, ML.mTOr, ML.mTNot, ML.mAnd, ML.mOr, ML.mNot, ML.mIfE, ML.mIsN, ML.mBM, ML.mChain, ML.bndS, ML.mRetN, ML.mDrop, ML.mNeg, mSl, mNoPart, mPart, hsl, ad1, ad2, et, hix, hne, h1L, h2L]
end K14

set_option maxHeartbeats 4000000
namespace K14
open PySem L2 ML
theorem for_list {e : ME} {g : MG} {b : MS} {ρ ρ' : Ev} {h h' : Hm} {us : List U} (e1 : e ρ h = some (.ok (.ref h.length) (h ++ [.lst us])))
    (e2 : forC (fun h' => h'[h.length]? = some (.lst us)) g b us ρ (h ++ [.lst us]) = some (.nx ρ' h')) : mFor (iSeq e) g b ρ h = some (.nx ρ' h') := by
  have hi : iSeq e ρ h = some (.ok (us, fun h' => h'[h.length]? = some (.lst us)) (h ++ [.lst us])) := by
    unfold iSeq iL
    rw [e1]
    simp
  unfold mFor
  rw [hi]
  exact e2
theorem app_at {H : Hm} {r : Nat} {x : Cell} (e : Hm) (hc : H[r]? = some x) : (H ++ e)[r]? = some x := by
  rw [List.getElem?_append_left (List.getElem?_eq_some_iff.mp hc).1]; exact hc
/-- a row of five that is wrong at k in the value w, and told so -/
def Bad (k : Nat) (w : U) (xs : List U) : Prop := ∃ a b c d e, xs = [a, b, c, d, e] ∧ IsSc a ∧ IsSc b ∧ IsSc c ∧ IsSc d ∧ IsSc e ∧ tellOf a b c d e = .tup [.str (wordOf k), w]
noncomputable abbrev bodyF : MS := (mSeq (mSet 8 (mOp oIx (mLst (mCons (mC (.bl true)) (mCons (mC .non) (mCons (mOp oIx (mVar 5) (mVar 7)) (mCons (mOp oIx (mVar 6) (mVar 7)) (mCons (mOp oPow (mC (.int 10)) (mC (.int 30))) (mCons (mNeg (mOp oPow (mC (.int 10)) (mC (.int 30)))) mNil))))))) (mCB m__law_draw (mCons (mVar 0) (mCons (mVar 1) (mCons (mC (.int 6)) mNil))))))
    (mSeq (mIf (mB (mOp oLt (mVar 7) (mC (.int 2))))
    (mSet 8 (mVar 3))
    mSkip)
    (mFor (iSeq (mLst (mCons (mSl oSl (mVar 2) (mPart (mOp oAdd (mVar 7) (mC (.int 1)))) mNoPart) (mCons (mSl oSl (mTup (mCons (mC .non) (mCons (mC .non) (mCons (mC .non) (mCons (mC .non) (mCons (mC .non) mNil)))))) (mPart (mOp oAdd (mVar 7) (mC (.int 1)))) mNoPart) mNil)))) (gN 9)
    bodyR)))
def nones : List U := [.non, .non, .non, .non, .non]
structure Inv (ns : List Int) (W Hh Lw : Nat) (hl ll : List U) (h : Hm) : Prop where
  g : Good ns h
  w : h[W]? = some (.lst wordsL)
  hh : h[Hh]? = some (.lst hl)
  lw : h[Lw]? = some (.lst ll)
  n : W ≠ 1 ∧ Hh ≠ 1 ∧ Lw ≠ 1
theorem Inv.app {ns : List Int} {W Hh Lw : Nat} {hl ll : List U} {h : Hm} (i : Inv ns W Hh Lw hl ll h) (e : Hm) : Inv ns W Hh Lw hl ll (h ++ e) := ⟨i.g.app e, app_at e i.w, app_at e i.hh, app_at e i.lw, i.n⟩
theorem turn {ns : List Int} {W Hh Lw : Nat} {hl ll rs pre : List U} {h : Hm} {odd hi lo : U} {k : Nat} (hk : k < 5) (iv : Inv ns W Hh Lw hl ll h) (ehi : atI hl (k : Int) = some hi) (elo : atI ll (k : Int) = some lo) (er : rs.length = 5) (ep : cut rs none (some (k : Int)) = pre) (hp : pre.length ≤ 5)
    {big : Int} (ebig : ∀ ρ h, mOp oPow (mC (.int 10)) (mC (.int 30)) ρ h = some (.ok (.int big) h))
    (hw : ∀ w ∈ [U.bl true, .non, hi, lo, .int big, .int (-big)], IsSc (if k < 2 then odd else w) ∧ SOk (if k < 2 then odd else w) ∧ Bad k (if k < 2 then odd else w) (pre ++ [if k < 2 then odd else w] ++ cut rs (some ((k : Int) + 1)) none) ∧ Bad k (if k < 2 then odd else w) (pre ++ [if k < 2 then odd else w] ++ cut nones (some ((k : Int) + 1)) none))
    (o8 o9 : Option U) : ∃ p8 p9 h', bodyF [some (.ref 0), some (.ref 1), some (.tup rs), some odd, some (.ref W), some (.ref Hh), some (.ref Lw), some (.int (k : Int)), o8, o9] h = some (.nx [some (.ref 0), some (.ref 1), some (.tup rs), some odd, some (.ref W), some (.ref Hh), some (.ref Lw), some (.int (k : Int)), p8, p9] h') ∧ Inv ns W Hh Lw hl ll h' := by
  have h6 : 6 ≤ LIM := by decide
  have h2 : 2 ≤ LIM := by decide
  have h5 : 5 ≤ LIM := by decide
  have x1 : oIx (.ref Hh) (.int (k : Int)) h = some (.ok hi h) := ev_ix (ev_rdL iv.hh) ehi
  have x2 : oIx (.ref Lw) (.int (k : Int)) h = some (.ok lo h) := ev_ix (ev_rdL iv.lw) elo
  have eM : (mLst (mCons (mC (.bl true)) (mCons (mC .non) (mCons (mOp oIx (mVar 5) (mVar 7)) (mCons (mOp oIx (mVar 6) (mVar 7)) (mCons (mOp oPow (mC (.int 10)) (mC (.int 30))) (mCons (mNeg (mOp oPow (mC (.int 10)) (mC (.int 30)))) mNil)))))))
      [some (.ref 0), some (.ref 1), some (.tup rs), some odd, some (.ref W), some (.ref Hh), some (.ref Lw), some (.int (k : Int)), o8, o9] h = some (.ok (.ref h.length) (h ++ [.lst [U.bl true, .non, hi, lo, .int big, .int (-big)]])) := by
    generalize mOp oPow (mC (.int 10)) (mC (.int 30)) = P at ebig ⊢
    simp [ML.mSeq, ML.mSet, ML.mIf, ML.mRet, ML.mVar, ML.mC, ML.mOp, ML.mCB, ML.mCons, ML.mNil, ML.mB, ML.toB, ML.mLst, ML.mTup, ML.mSkip, ML.mSetIx, ML.mTAnd, ML.mTOr, ML.mTNot, ML.mAnd, ML.mOr, ML.mNot, ML.mIfE, ML.mIsN, ML.mBM, ML.mChain, ML.bndS, ML.mRetN, ML.mDrop, ML.mNeg, x1, x2, ebig, h6]
  obtain ⟨w, h1, hwm, ew, g1, k1, l1⟩ := pick iv.g eM (n := 6) rfl (by decide) (by decide) rfl rfl
  obtain ⟨c1, c2, ⟨a, b, c, d, e, q1, sa, sb, sc, sd, se, t1⟩, ⟨a', b', c', d', e', q2, sa', sb', sc', sd', se', t2⟩⟩ := hw w hwm
  have keep : ∀ {i x}, i ≠ 1 → h[i]? = some x → h1[i]? = some x := fun i1 q => by rw [k1 _ i1 (List.getElem?_eq_some_iff.mp q).1]; exact q
  have iv1 : Inv ns W Hh Lw hl ll h1 := ⟨g1, keep iv.n.1 iv.w, keep iv.n.2.1 iv.hh, keep iv.n.2.2 iv.lw, iv.n⟩
  generalize hwf : (if k < 2 then odd else w) = wf at *
  have e2 : (mIf (mB (mOp oLt (mVar 7) (mC (.int 2)))) (mSet 8 (mVar 3)) mSkip) [some (.ref 0), some (.ref 1), some (.tup rs), some odd, some (.ref W), some (.ref Hh), some (.ref Lw), some (.int (k : Int)), some w, o9] h1 = some (.nx [some (.ref 0), some (.ref 1), some (.tup rs), some odd, some (.ref W), some (.ref Hh), some (.ref Lw), some (.int (k : Int)), some wf, o9] h1) := by
    by_cases hk2 : k < 2
    · rw [if_pos hk2] at hwf
      subst hwf
      have : (k : Int) < 2 := by omega
      simp [ML.mSeq, ML.mSet, ML.mIf, ML.mRet, ML.mVar, ML.mC, ML.mOp, ML.mCB, ML.mCons, ML.mNil, ML.mB, ML.toB, ML.mLst, ML.mTup, ML.mSkip, ML.mSetIx, ML.mTAnd, ML.mTOr, ML.mTNot, ML.mAnd, ML.mOr, ML.mNot, ML.mIfE, ML.mIsN, ML.mBM, ML.mChain, ML.bndS, ML.mRetN, ML.mDrop, ML.mNeg, this]
    · rw [if_neg hk2] at hwf
      subst hwf
      have : ¬ (k : Int) < 2 := by omega
      simp [ML.mSeq, ML.mSet, ML.mIf, ML.mRet, ML.mVar, ML.mC, ML.mOp, ML.mCB, ML.mCons, ML.mNil, ML.mB, ML.toB, ML.mLst, ML.mTup, ML.mSkip, ML.mSetIx, ML.mTAnd, ML.mTOr, ML.mTNot, ML.mAnd, ML.mOr, ML.mNot, ML.mIfE, ML.mIsN, ML.mBM, ML.mChain, ML.bndS, ML.mRetN, ML.mDrop, ML.mNeg, this]
  generalize hp1 : cut rs (some ((k : Int) + 1)) none = p1 at *
  generalize hp2 : cut nones (some ((k : Int) + 1)) none = p2 at *
  have s1 : ∀ h', oSl (.tup rs) (some ((k : Int) + 1)) none h' = some (.ok (.tup p1) h') := fun h' => by rw [← hp1]; rfl
  have s2 : ∀ h', oSl (.tup [.non, .non, .non, .non, .non]) (some ((k : Int) + 1)) none h' = some (.ok (.tup p2) h') := fun h' => by rw [← hp2]; rfl
  have eL : (mLst (mCons (mSl oSl (mVar 2) (mPart (mOp oAdd (mVar 7) (mC (.int 1)))) mNoPart) (mCons (mSl oSl (mTup (mCons (mC .non) (mCons (mC .non) (mCons (mC .non) (mCons (mC .non) (mCons (mC .non) mNil)))))) (mPart (mOp oAdd (mVar 7) (mC (.int 1)))) mNoPart) mNil)))
      [some (.ref 0), some (.ref 1), some (.tup rs), some odd, some (.ref W), some (.ref Hh), some (.ref Lw), some (.int (k : Int)), some wf, o9] h1 = some (.ok (.ref h1.length) (h1 ++ [.lst [.tup p1, .tup p2]])) := by
    simp [ML.mSeq, ML.mSet, ML.mIf, ML.mRet, ML.mVar, ML.mC, ML.mOp, ML.mCB, ML.mCons, ML.mNil, ML.mB, ML.toB, ML.mLst, ML.mTup, ML.mSkip, ML.mSetIx, ML.mTAnd, ML.mTOr, ML.mTNot, ML.mAnd, ML.mOr, ML.mNot, ML.mIfE, ML.mIsN, ML.mBM, ML.mChain, ML.bndS, ML.mRetN, ML.mDrop, ML.mNeg, mSl, mPart, mNoPart, s1, s2, h5, h2]
  have iv2 := iv1.app [.lst [.tup p1, .tup p2]]
  obtain ⟨E1, r1⟩ := row_turn hk iv2.w c1 c2 er ep q1 hp sa sb sc sd se t1 (some (.ref 0)) (some (.ref 1)) (some odd) (some (.ref Hh)) (some (.ref Lw))
  have iv3 := iv2.app E1
  obtain ⟨E2, r2⟩ := row_turn hk iv3.w c1 c2 er ep q2 hp sa' sb' sc' sd' se' t2 (some (.ref 0)) (some (.ref 1)) (some odd) (some (.ref Hh)) (some (.ref Lw))
  refine ⟨some wf, some (.tup p2), h1 ++ [.lst [.tup p1, .tup p2]] ++ E1 ++ E2, ?_, iv3.app E2⟩
  have hc0 : (h1 ++ [Cell.lst [.tup p1, .tup p2]])[h1.length]? = some (.lst [.tup p1, .tup p2]) := by simp
  unfold bodyF
  rw [seq_nx (ρ1 := [some (.ref 0), some (.ref 1), some (.tup rs), some odd, some (.ref W), some (.ref Hh), some (.ref Lw), some (.int (k : Int)), some w, o9]) (h1 := h1) (by
    unfold mSet
    have ew' := ew
    rw [show ((6 : Nat) : Int) = 6 from rfl] at ew'
    rw [ew']
    rfl), seq_nx e2]
  refine for_list eL ?_
  rw [for_cons (ρ2 := [some (.ref 0), some (.ref 1), some (.tup rs), some odd, some (.ref W), some (.ref Hh), some (.ref Lw), some (.int (k : Int)), some wf, some (.tup p1)]) hc0 rfl r1]
  rw [for_cons (ρ2 := [some (.ref 0), some (.ref 1), some (.tup rs), some odd, some (.ref W), some (.ref Hh), some (.ref Lw), some (.int (k : Int)), some wf, some (.tup p2)]) (app_at E1 hc0) rfl r2]
  exact for_nil (app_at E2 (app_at E1 hc0))
end K14

set_option maxHeartbeats 4000000
namespace K14
open PySem L2 ML
def oddL : List U := [.str "", .str "A", .str "abcdefghi", .non, .int 3, .str "a "]
theorem odd_ok : ∀ u ∈ oddL, IsSc u ∧ SOk u ∧ nmOk u = false := by
  intro u hu
  simp only [oddL, List.mem_cons, List.not_mem_nil, or_false] at hu
  rcases hu with rfl | rfl | rfl | rfl | rfl | rfl
  · exact ⟨by show _ ≤ LIM; decide +kernel, by show PyData.strOk _ = true; decide +kernel, by decide +kernel⟩
  · exact ⟨by show _ ≤ LIM; decide +kernel, by show PyData.strOk _ = true; decide +kernel, by decide +kernel⟩
  · exact ⟨by show _ ≤ LIM; decide +kernel, by show PyData.strOk _ = true; decide +kernel, by decide +kernel⟩
  · exact ⟨trivial, trivial, rfl⟩
  · exact ⟨trivial, trivial, rfl⟩
  · exact ⟨by show _ ≤ LIM; decide +kernel, by show PyData.strOk _ = true; decide +kernel, by decide +kernel⟩
def hiL : List U := [.int 0, .int 0, .int 2881, .int 2881, .int 601]
def loL (o : Int) : List U := [.int 0, .int 0, .int (-1), .int (o - 1), .int (-1)]
theorem wrong_num {lo hi : Int} {w : U} {x y big : Int} (hx : hi < x) (hy : y < lo) (hb : hi < big) (hb2 : -big < lo) (hm : w ∈ [U.bl true, .non, .int x, .int y, .int big, .int (-big)]) : IsSc w ∧ SOk w ∧ numOk w lo (.int hi) = false := by
  simp only [List.mem_cons, List.not_mem_nil, or_false] at hm
  rcases hm with rfl | rfl | rfl | rfl | rfl | rfl
  · exact ⟨trivial, trivial, rfl⟩
  · exact ⟨trivial, trivial, rfl⟩
  · exact ⟨trivial, trivial, by simp only [numOk, hiOk, Bool.and_eq_false_iff, decide_eq_false_iff_not]; right; omega⟩
  · exact ⟨trivial, trivial, by simp only [numOk, hiOk, Bool.and_eq_false_iff, decide_eq_false_iff_not]; left; omega⟩
  · exact ⟨trivial, trivial, by simp only [numOk, hiOk, Bool.and_eq_false_iff, decide_eq_false_iff_not]; right; omega⟩
  · exact ⟨trivial, trivial, by simp only [numOk, hiOk, Bool.and_eq_false_iff, decide_eq_false_iff_not]; left; omega⟩
theorem num_in {i lo hi : Int} (h0 : lo ≤ i) (h1 : i ≤ hi) : numOk (.int i) lo (.int hi) = true := by
  simp only [numOk, hiOk, Bool.and_eq_true, decide_eq_true_eq]
  exact ⟨h0, h1⟩
theorem refusals {ns : List Int} {h : Hm} (g : Good ns h) {n0 n1 : U} {o l d : Int} (s0 : IsSc n0) (s1 : IsSc n1) (k0 : nmOk n0 = true) (k1 : nmOk n1 = true) (ho : 0 ≤ o) (hl : o ≤ l) (hl2 : l ≤ 2880) (hd : 0 ≤ d) (hd2 : d ≤ 600) :
    ∃ h', m__law_refusals_hold [.ref 0, .ref 1, .tup [n0, n1, .int o, .int l, .int d]] h = some (.ok (.bl true) h') := by
  obtain ⟨rs, hrs⟩ : ∃ rs, rs = [n0, n1, U.int o, U.int l, U.int d] := ⟨_, rfl⟩
  have eo : (mLst (mCons (mC (.str ("" : Str))) (mCons (mC (.str ("A" : Str))) (mCons (mC (.str ("abcdefghi" : Str))) (mCons (mC .non) (mCons (mC (.int 3)) (mCons (mC (.str ("a " : Str))) mNil))))))) [some (.ref 0), some (.ref 1), some (.tup rs), none, none, none, none, none, none, none] h = some (.ok (.ref h.length) (h ++ [.lst oddL])) := by
    have : 6 ≤ LIM := by decide
    simp [ML.mSeq, ML.mSet, ML.mIf, ML.mRet, ML.mVar, ML.mC, ML.mOp, ML.mCB, ML.mCons, ML.mNil, ML.mB, ML.toB, ML.mLst, ML.mTup, ML.mSkip, ML.mSetIx, ML.mTAnd, ML.mTOr, ML.mTNot, ML.mAnd, ML.mOr, ML.mNot, ML.mIfE, ML.mIsN, ML.mBM, ML.mChain, ML.bndS, ML.mRetN, ML.mDrop, ML.mNeg, oddL, this]
  obtain ⟨odd, h1, hom, eo1, g1, _, _⟩ := pick g eo (n := 6) rfl (by decide) (by decide) rfl rfl
  obtain ⟨so, oo, no⟩ := odd_ok odd hom
  have hg1 := g1.len
  obtain ⟨h4, hh4⟩ : ∃ h4, h4 = h1 ++ [.lst wordsL] ++ [.lst hiL] ++ [.lst (loL o)] := ⟨_, rfl⟩
  have iv : Inv ns h1.length (h1.length + 1) (h1.length + 2) hiL (loL o) h4 := by
    rw [hh4]
    refine ⟨((g1.app _).app _).app _, app_at _ (app_at _ (by simp)), app_at _ (by rw [List.getElem?_append_right (by simp)]; simp), by rw [List.getElem?_append_right (by simp)]; simp, by omega, by omega, by omega⟩
  obtain ⟨big, hbig, ebig⟩ : ∃ big : Int, 5000 < big ∧ ∀ ρ h, mOp oPow (mC (.int 10)) (mC (.int 30)) ρ h = some (.ok (.int big) h) := ⟨10 ^ 30, by decide, fun ρ h => by simp [ML.mSeq, ML.mSet, ML.mIf, ML.mRet, ML.mVar, ML.mC, ML.mOp, ML.mCB, ML.mCons, ML.mNil, ML.mB, ML.toB, ML.mLst, ML.mTup, ML.mSkip, ML.mSetIx, ML.mTAnd, ML.mTOr, ML.mTNot, ML.mAnd, ML.mOr, ML.mNot, ML.mIfE, ML.mIsN, ML.mBM, ML.mChain, ML.bndS, ML.mRetN, ML.mDrop, ML.mNeg, cPow]⟩
  have m3 := num_in (i := o) (lo := 0) (hi := 2880) ho (by omega)
  have m4 := num_in (i := l) (lo := o) (hi := 2880) hl hl2
  -- the five turns
  obtain ⟨a8, a9, i1, t1, iv1⟩ := turn (k := 0) (odd := odd) (rs := rs) (pre := []) (by decide) iv (hi := .int 0) (lo := .int 0) rfl rfl (by rw [hrs]; rfl) (by rw [hrs]; rfl) (by simp) ebig (fun w hw => by
    rw [if_pos (by decide)]
    refine ⟨so, oo, ⟨odd, n1, .int o, .int l, .int d, by rw [hrs]; rfl, so, s1, trivial, trivial, trivial, by simp [tellOf, no]; rfl⟩, ⟨odd, .non, .non, .non, .non, rfl, so, trivial, trivial, trivial, trivial, by simp [tellOf, no]; rfl⟩⟩) none none
  obtain ⟨b8, b9, i2, t2, iv2⟩ := turn (k := 1) (odd := odd) (rs := rs) (pre := [n0]) (by decide) iv1 (hi := .int 0) (lo := .int 0) rfl rfl (by rw [hrs]; rfl) (by rw [hrs]; rfl) (by simp) ebig (fun w hw => by
    rw [if_pos (by decide)]
    refine ⟨so, oo, ⟨n0, odd, .int o, .int l, .int d, by rw [hrs]; rfl, s0, so, trivial, trivial, trivial, by simp [tellOf, no, k0]; rfl⟩, ⟨n0, odd, .non, .non, .non, rfl, s0, so, trivial, trivial, trivial, by simp [tellOf, no, k0]; rfl⟩⟩) a8 a9
  obtain ⟨c8, c9, i3, t3, iv3⟩ := turn (k := 2) (odd := odd) (rs := rs) (pre := [n0, n1]) (by decide) iv2 (hi := .int 2881) (lo := .int (-1)) rfl rfl (by rw [hrs]; rfl) (by rw [hrs]; rfl) (by simp) ebig (fun w hw => by
    rw [if_neg (by decide)]
    obtain ⟨sw, ow, nw⟩ := wrong_num (lo := 0) (hi := 2880) (by decide) (by decide) (by omega) (by omega) hw
    refine ⟨sw, ow, ⟨n0, n1, w, .int l, .int d, by rw [hrs]; rfl, s0, s1, sw, trivial, trivial, by simp [tellOf, nw, k0, k1]; rfl⟩, ⟨n0, n1, w, .non, .non, rfl, s0, s1, sw, trivial, trivial, by simp [tellOf, nw, k0, k1]; rfl⟩⟩) b8 b9
  obtain ⟨d8, d9, i4, t4, iv4⟩ := turn (k := 3) (odd := odd) (rs := rs) (pre := [n0, n1, .int o]) (by decide) iv3 (hi := .int 2881) (lo := .int (o - 1)) rfl rfl (by rw [hrs]; rfl) (by rw [hrs]; rfl) (by simp) ebig (fun w hw => by
    rw [if_neg (by decide)]
    obtain ⟨sw, ow, nw⟩ := wrong_num (lo := o) (hi := 2880) (by decide) (by omega) (by omega) (by omega) hw
    refine ⟨sw, ow, ⟨n0, n1, .int o, w, .int d, by rw [hrs]; rfl, s0, s1, trivial, sw, trivial, by simp [tellOf, nw, k0, k1, m3, loOf]; rfl⟩, ⟨n0, n1, .int o, w, .non, rfl, s0, s1, trivial, sw, trivial, by simp [tellOf, nw, k0, k1, m3, loOf]; rfl⟩⟩) c8 c9
  obtain ⟨e8, e9, i5, t5, iv5⟩ := turn (k := 4) (odd := odd) (rs := rs) (pre := [n0, n1, .int o, .int l]) (by decide) iv4 (hi := .int 601) (lo := .int (-1)) rfl rfl (by rw [hrs]; rfl) (by rw [hrs]; rfl) (by simp) ebig (fun w hw => by
    rw [if_neg (by decide)]
    obtain ⟨sw, ow, nw⟩ := wrong_num (lo := 0) (hi := 600) (by decide) (by decide) (by omega) (by omega) hw
    refine ⟨sw, ow, ⟨n0, n1, .int o, .int l, w, by rw [hrs]; rfl, s0, s1, trivial, trivial, sw, by simp [tellOf, nw, k0, k1, m3, m4, loOf]; rfl⟩, ⟨n0, n1, .int o, .int l, w, rfl, s0, s1, trivial, trivial, sw, by simp [tellOf, nw, k0, k1, m3, m4, loOf]; rfl⟩⟩) d8 d9
  rw [← hrs]
  refine ⟨i5, ?_⟩
  have key : b__law_refusals_hold [some (.ref 0), some (.ref 1), some (.tup rs), none, none, none, none, none, none, none] h = some (.rt (.bl true) i5) := by
    unfold b__law_refusals_hold
    rw [seq_nx (ρ1 := [some (.ref 0), some (.ref 1), some (.tup rs), some odd, none, none, none, none, none, none]) (h1 := h1) (by
      unfold mSet
      have e' := eo1
      rw [show ((6 : Nat) : Int) = 6 from rfl] at e'
      rw [e']
      rfl)]
    rw [seq_nx (ρ1 := [some (.ref 0), some (.ref 1), some (.tup rs), some odd, some (.ref h1.length), none, none, none, none, none]) (h1 := h1 ++ [.lst wordsL]) (by
      have : 5 ≤ LIM := by decide
      simp [ML.mSeq, ML.mSet, ML.mIf, ML.mRet, ML.mVar, ML.mC, ML.mOp, ML.mCB, ML.mCons, ML.mNil, ML.mB, ML.toB, ML.mLst, ML.mTup, ML.mSkip, ML.mSetIx, ML.mTAnd, ML.mTOr, ML.mTNot, ML.mAnd, ML.mOr, ML.mNot, ML.mIfE, ML.mIsN, ML.mBM, ML.mChain, ML.bndS, ML.mRetN, ML.mDrop, ML.mNeg, wordsL, this])]
    rw [seq_nx (ρ1 := [some (.ref 0), some (.ref 1), some (.tup rs), some odd, some (.ref h1.length), some (.ref (h1.length + 1)), none, none, none, none]) (h1 := h1 ++ [.lst wordsL] ++ [.lst hiL]) (by
      have : 5 ≤ LIM := by decide
      generalize wordsL = WL
      simp [ML.mSeq, ML.mSet, ML.mIf, ML.mRet, ML.mVar, ML.mC, ML.mOp, ML.mCB, ML.mCons, ML.mNil, ML.mB, ML.toB, ML.mLst, ML.mTup, ML.mSkip, ML.mSetIx, ML.mTAnd, ML.mTOr, ML.mTNot, ML.mAnd, ML.mOr, ML.mNot, ML.mIfE, ML.mIsN, ML.mBM, ML.mChain, ML.bndS, ML.mRetN, ML.mDrop, ML.mNeg, hiL, this])]
    have x2 : ∀ h', oIx (.tup rs) (.int 2) h' = some (.ok (.int o) h') := fun h' => by rw [hrs]; rfl
    rw [seq_nx (ρ1 := [some (.ref 0), some (.ref 1), some (.tup rs), some odd, some (.ref h1.length), some (.ref (h1.length + 1)), some (.ref (h1.length + 2)), none, none, none]) (h1 := h4) (by
      have : 5 ≤ LIM := by decide
      rw [hh4]
      generalize wordsL = WL
      generalize hiL = HL
      simp [ML.mSeq, ML.mSet, ML.mIf, ML.mRet, ML.mVar, ML.mC, ML.mOp, ML.mCB, ML.mCons, ML.mNil, ML.mB, ML.toB, ML.mLst, ML.mTup, ML.mSkip, ML.mSetIx, ML.mTAnd, ML.mTOr, ML.mTNot, ML.mAnd, ML.mOr, ML.mNot, ML.mIfE, ML.mIsN, ML.mBM, ML.mChain, ML.bndS, ML.mRetN, ML.mDrop, ML.mNeg, loL, this, x2])]
    rw [seq_nx (ρ1 := [some (.ref 0), some (.ref 1), some (.tup rs), some odd, some (.ref h1.length), some (.ref (h1.length + 1)), some (.ref (h1.length + 2)), some (.int 4), e8, e9]) (h1 := i5) (by
      unfold mFor
      have hi : iR1 (mC (.int 5)) [some (.ref 0), some (.ref 1), some (.tup rs), some odd, some (.ref h1.length), some (.ref (h1.length + 1)), some (.ref (h1.length + 2)), none, none, none] h4 = some (.ok (rItems 0 5, fun _ => True) h4) := by
        simp only [iR1]
        simp [ML.mSeq, ML.mSet, ML.mIf, ML.mRet, ML.mVar, ML.mC, ML.mOp, ML.mCB, ML.mCons, ML.mNil, ML.mB, ML.toB, ML.mLst, ML.mTup, ML.mSkip, ML.mSetIx, ML.mTAnd, ML.mTOr, ML.mTNot, ML.mAnd, ML.mOr, ML.mNot, ML.mIfE, ML.mIsN, ML.mBM, ML.mChain, ML.bndS, ML.mRetN, ML.mDrop, ML.mNeg]
      rw [hi]
      show forC (fun _ => True) (gN 7) bodyF [U.int 0, .int 1, .int 2, .int 3, .int 4] _ h4 = _
      rw [for_cons (ρ1 := [some (.ref 0), some (.ref 1), some (.tup rs), some odd, some (.ref h1.length), some (.ref (h1.length + 1)), some (.ref (h1.length + 2)), some (.int 0), none, none]) trivial rfl t1]
      rw [for_cons (ρ1 := [some (.ref 0), some (.ref 1), some (.tup rs), some odd, some (.ref h1.length), some (.ref (h1.length + 1)), some (.ref (h1.length + 2)), some (.int 1), a8, a9]) trivial rfl t2]
      rw [for_cons (ρ1 := [some (.ref 0), some (.ref 1), some (.tup rs), some odd, some (.ref h1.length), some (.ref (h1.length + 1)), some (.ref (h1.length + 2)), some (.int 2), b8, b9]) trivial rfl t3]
      rw [for_cons (ρ1 := [some (.ref 0), some (.ref 1), some (.tup rs), some odd, some (.ref h1.length), some (.ref (h1.length + 1)), some (.ref (h1.length + 2)), some (.int 3), c8, c9]) trivial rfl t4]
      rw [for_cons (ρ1 := [some (.ref 0), some (.ref 1), some (.tup rs), some odd, some (.ref h1.length), some (.ref (h1.length + 1)), some (.ref (h1.length + 2)), some (.int 4), d8, d9]) trivial rfl t5]
      exact for_nil trivial)]
    simp [ML.mSeq, ML.mSet, ML.mIf, ML.mRet, ML.mVar, ML.mC, ML.mOp, ML.mCB, ML.mCons, ML.mNil, ML.mB, ML.toB, ML.mLst, ML.mTup, ML.mSkip, ML.mSetIx, ML.mTAnd, ML.mTOr, ML.mTNot, ML.mAnd, ML.mOr, ML.mNot, ML.mIfE, ML.mIsN, ML.mBM, ML.mChain, ML.bndS, ML.mRetN, ML.mDrop, ML.mNeg]
  unfold m__law_refusals_hold mfun
  simp [key]
end K14

set_option maxHeartbeats 4000000
namespace K14
open PySem L2 ML
theorem lt_len : LT.length = 26 := by decide +kernel
theorem lt_small : ∀ c, isLet c = true → c < 128 := by
  have : LT.cps.toList.all (fun c => decide (c < 128)) = true := by decide +kernel
  intro c hc
  have := List.all_eq_true.mp this c (of_decide_eq_true hc)
  simpa using this
def allLet (t : Str) : Prop := t.cps.toList.all isLet = true
theorem strOk_let {t : Str} (h : allLet t) : PyData.strOk t = true := by
  unfold PyData.strOk
  rw [← Array.all_toList]
  refine List.all_eq_true.mpr fun c hc => ?_
  have := lt_small c (List.all_eq_true.mp h c hc)
  simp
  omega
theorem letter {r : Int} (r0 : 0 ≤ r) (r1 : r < 26) : ∃ Y : Str, Y.length = 1 ∧ allLet Y ∧ ∀ h', oIx (.str LT) (.int r) h' = some (.ok (.str Y) h') := by
  obtain ⟨y, hy, ey⟩ := atI_in (xs := LT.cps.toList) (i := r) r0 (by rw [← str_len, lt_len]; exact r1)
  refine ⟨⟨#[y]⟩, rfl, ?_, fun h' => ev_ixS ey (by rw [lt_len]; decide)⟩
  unfold allLet
  simp only [List.all_cons, List.all_nil, Bool.and_true]
  exact decide_eq_true hy
theorem allLet_app {a b : Str} (ha : allLet a) (hb : allLet b) : allLet (a ++ b) := by
  unfold allLet at *
  rw [str_app, List.all_append, ha, hb]
  rfl
noncomputable abbrev bodyJ : MS := (mSet 8 (mOp oAdd (mOp oIx (mVar 4) (mCB m__law_draw (mCons (mVar 0) (mCons (mVar 1) (mCons (mC (.int 26)) mNil))))) (mVar 8)))
theorem loopJ {ns : List Int} {o2 o3 o5 o6 o7 : Option U} : ∀ (us : List U) (t : Str) (o9 : Option U) (h : Hm), t.length + us.length ≤ 8 → 1 ≤ t.length → allLet t → Good ns h → ∃ t' o9' h', 1 ≤ t'.length ∧ t'.length ≤ 8 ∧ allLet t' ∧ Good ns h' ∧ (∀ i, i ≠ 1 → h'[i]? = h[i]?) ∧ h'.length = h.length ∧
    forC (fun _ => True) (gN 9) bodyJ us [some (.ref 0), some (.ref 1), o2, o3, some (.str LT), o5, o6, o7, some (.str t), o9] h = some (.nx [some (.ref 0), some (.ref 1), o2, o3, some (.str LT), o5, o6, o7, some (.str t'), o9'] h')
  | [], t, o9, h, hl, h1, ha, g => ⟨t, o9, h, h1, by simpa using hl, ha, g, fun _ _ => rfl, rfl, for_nil trivial⟩
  | u :: us, t, o9, h, hl, h1, ha, g => by
    simp only [List.length_cons] at hl
    obtain ⟨r, hh, r0, r1, g1, k1, l1, e⟩ := drawC g 26 (by decide) (by decide)
    obtain ⟨Y, ly, hy, hix⟩ := letter r0 r1
    have hlim : Y.length + t.length ≤ LIM := by show _ ≤ 1000000; omega
    have hl2 := str_app_len Y t
    obtain ⟨t', o9', h', c0, c1, c2, c3, c4, c5, c6⟩ := loopJ (ns := ns) (o2 := o2) (o3 := o3) (o5 := o5) (o6 := o6) (o7 := o7) us (Y ++ t) (some u) hh (by omega) (by omega) (allLet_app hy ha) g1
    refine ⟨t', o9', h', c0, c1, c2, c3, fun i hi => by rw [c4 i hi, k1 i hi], by rw [c5, l1], ?_⟩
    rw [← c6]
    refine for_cons trivial rfl ?_
    unfold bodyJ
    generalize LT = L at *
    simp [ML.mSeq, ML.mSet, ML.mIf, ML.mRet, ML.mVar, ML.mC, ML.mOp, ML.mCB, ML.mCons, ML.mNil, ML.mB, ML.toB, ML.mLst, ML.mTup, ML.mSkip, ML.mSetIx, ML.mTAnd, ML.mTOr, ML.mTNot, ML.mAnd, ML.mOr, ML.mNot, ML.mIfE, ML.mIsN, ML.mBM, ML.mChain, ML.bndS, ML.mRetN, ML.mDrop, ML.mNeg, e, hix, hlim]
noncomputable abbrev bodyN : MS := (mSeq (mSet 8 (mOp oIx (mVar 4) (mOp oMod (mCB fIntA2 (mCons (mOp oAdd (mVar 5) (mOp oMulA (mC (.int 7)) (mVar 7))) mNil)) (mC (.int 26)))))
    (mSeq (mFor (iR1 (mCB m__law_draw (mCons (mVar 0) (mCons (mVar 1) (mCons (mVar 3) mNil))))) (gN 9)
    (mSet 8 (mOp oAdd (mOp oIx (mVar 4) (mCB m__law_draw (mCons (mVar 0) (mCons (mVar 1) (mCons (mC (.int 26)) mNil))))) (mVar 8))))
    (mDrop (mBM kList fAppend (mVar 6) (mCons (mVar 8) mNil)))))
def Name (t : Str) : Prop := 1 ≤ t.length ∧ t.length ≤ 8 ∧ allLet t
theorem name_turn {ns : List Int} {h : Hm} (g : Good ns h) {W : Nat} (hW0 : W ≠ 0) (hW1 : W ≠ 1) {acc : List U} (hc : h[W]? = some (.lst acc)) (hl : acc.length ≤ 100) (s k : Int) (o2 o8 o9 : Option U) :
    ∃ t p9 h', Name t ∧ Good ns h' ∧ h'[W]? = some (.lst (acc ++ [.str t])) ∧ h'.length = h.length ∧ bodyN [some (.ref 0), some (.ref 1), o2, some (.int 8), some (.str LT), some (.int s), some (.ref W), some (.int k), o8, o9] h = some (.nx [some (.ref 0), some (.ref 1), o2, some (.int 8), some (.str LT), some (.int s), some (.ref W), some (.int k), some (.str t), p9] h') := by
  obtain ⟨Y, ly, hy, hix⟩ := letter (r := (s + 7 * k).fmod 26) (Int.fmod_nonneg_of_pos _ (by decide)) (Int.fmod_lt_of_pos _ (by decide))
  obtain ⟨r, h1, r0, r1, g1, k1, l1, e⟩ := drawC g 8 (by decide) (by decide)
  obtain ⟨t, p9, h2, c0, c1, c2, g2, c4, c5, c6⟩ := loopJ (ns := ns) (o2 := o2) (o3 := some (.int 8)) (o5 := some (.int s)) (o6 := some (.ref W)) (o7 := some (.int k)) (rItems 0 r.toNat) Y o9 h1 (by simp [rItems]; omega) (by omega) hy g1
  have hc2 : h2[W]? = some (.lst acc) := by rw [c4 W hW1, k1 W hW1]; exact hc
  have hWl : W < h2.length := (List.getElem?_eq_some_iff.mp hc2).1
  refine ⟨t, p9, h2.set W (.lst (acc ++ [.str t])), ⟨c0, c1, c2⟩, g2.at_ (by rw [List.getElem?_set_ne hW0]) (by rw [List.getElem?_set_ne hW1]), by rw [List.getElem?_set_self hWl], by simp [c5, l1], ?_⟩
  unfold bodyN
  rw [seq_nx (ρ1 := [some (.ref 0), some (.ref 1), o2, some (.int 8), some (.str LT), some (.int s), some (.ref W), some (.int k), some (.str Y), o9]) (h1 := h) (by
    generalize LT = L at *
    simp [ML.mSeq, ML.mSet, ML.mIf, ML.mRet, ML.mVar, ML.mC, ML.mOp, ML.mCB, ML.mCons, ML.mNil, ML.mB, ML.toB, ML.mLst, ML.mTup, ML.mSkip, ML.mSetIx, ML.mTAnd, ML.mTOr, ML.mTNot, ML.mAnd, ML.mOr, ML.mNot, ML.mIfE, ML.mIsN, ML.mBM, ML.mChain, ML.bndS, ML.mRetN, ML.mDrop, ML.mNeg, cMul, hix])]
  rw [seq_nx (ρ1 := [some (.ref 0), some (.ref 1), o2, some (.int 8), some (.str LT), some (.int s), some (.ref W), some (.int k), some (.str t), p9]) (h1 := h2) (by
    unfold mFor
    have hi : iR1 (mCB m__law_draw (mCons (mVar 0) (mCons (mVar 1) (mCons (mVar 3) mNil)))) [some (.ref 0), some (.ref 1), o2, some (.int 8), some (.str LT), some (.int s), some (.ref W), some (.int k), some (.str Y), o9] h = some (.ok (rItems 0 r.toNat, fun _ => True) h1) := by
      have q1 : -1000000000 ≤ r := by omega
      have q2 : r ≤ 1000000000 := by omega
      simp only [iR1]
      generalize LT = L at *
      simp [ML.mSeq, ML.mSet, ML.mIf, ML.mRet, ML.mVar, ML.mC, ML.mOp, ML.mCB, ML.mCons, ML.mNil, ML.mB, ML.toB, ML.mLst, ML.mTup, ML.mSkip, ML.mSetIx, ML.mTAnd, ML.mTOr, ML.mTNot, ML.mAnd, ML.mOr, ML.mNot, ML.mIfE, ML.mIsN, ML.mBM, ML.mChain, ML.bndS, ML.mRetN, ML.mDrop, ML.mNeg, e, q1, q2]
    rw [hi]
    exact c6)]
  have ha : acc.length < LIM := by show _ < 1000000; omega
  have hk : kList (.ref W) h2 = true := by simp [kList, hc2]
  generalize LT = L at *
  simp [ML.mSeq, ML.mSet, ML.mIf, ML.mRet, ML.mVar, ML.mC, ML.mOp, ML.mCB, ML.mCons, ML.mNil, ML.mB, ML.toB, ML.mLst, ML.mTup, ML.mSkip, ML.mSetIx, ML.mTAnd, ML.mTOr, ML.mTNot, ML.mAnd, ML.mOr, ML.mNot, ML.mIfE, ML.mIsN, ML.mBM, ML.mChain, ML.bndS, ML.mRetN, ML.mDrop, ML.mNeg, hk, fAppend, hc2, ha]
theorem names {ns : List Int} {h : Hm} (g : Good ns h) : ∃ a b W h', Name a ∧ Name b ∧ Good ns h' ∧ W ≠ 1 ∧ h'[W]? = some (.lst [.str a, .str b]) ∧ m__law_names [.ref 0, .ref 1, .int 2, .int 8] h = some (.ok (.ref W) h') := by
  have hg := g.len
  obtain ⟨s, h1, s0, s1, g1, k1, l1, e1⟩ := drawC g 26 (by decide) (by decide)
  obtain ⟨a, p9, h2, na, g2, c2, l2, t1⟩ := name_turn (g1.app [.lst []]) (W := h1.length) (by omega) (by omega) (acc := []) (by simp) (by simp) s 0 (some (.int 2)) none none
  obtain ⟨b, q9, h3, nb, g3, c3, l3, t2⟩ := name_turn g2 (W := h1.length) (by omega) (by omega) c2 (by simp) s 1 (some (.int 2)) (some (.str a)) p9
  refine ⟨a, b, h1.length, h3, na, nb, g3, by omega, c3, ?_⟩
  have key : b__law_names [some (.ref 0), some (.ref 1), some (.int 2), some (.int 8), none, none, none, none, none, none] h = some (.rt (.ref h1.length) h3) := by
    unfold b__law_names
    rw [seq_nx (ρ1 := [some (.ref 0), some (.ref 1), some (.int 2), some (.int 8), some (.str LT), none, none, none, none, none]) (h1 := h) (by simp [ML.mSeq, ML.mSet, ML.mIf, ML.mRet, ML.mVar, ML.mC, ML.mOp, ML.mCB, ML.mCons, ML.mNil, ML.mB, ML.toB, ML.mLst, ML.mTup, ML.mSkip, ML.mSetIx, ML.mTAnd, ML.mTOr, ML.mTNot, ML.mAnd, ML.mOr, ML.mNot, ML.mIfE, ML.mIsN, ML.mBM, ML.mChain, ML.bndS, ML.mRetN, ML.mDrop, ML.mNeg])]
    rw [seq_nx (ρ1 := [some (.ref 0), some (.ref 1), some (.int 2), some (.int 8), some (.str LT), some (.int s), none, none, none, none]) (h1 := h1) (by
      generalize LT = L at *
      simp [ML.mSeq, ML.mSet, ML.mIf, ML.mRet, ML.mVar, ML.mC, ML.mOp, ML.mCB, ML.mCons, ML.mNil, ML.mB, ML.toB, ML.mLst, ML.mTup, ML.mSkip, ML.mSetIx, ML.mTAnd, ML.mTOr, ML.mTNot, ML.mAnd, ML.mOr, ML.mNot, ML.mIfE, ML.mIsN, ML.mBM, ML.mChain, ML.bndS, ML.mRetN, ML.mDrop, ML.mNeg, e1])]
    rw [seq_nx (ρ1 := [some (.ref 0), some (.ref 1), some (.int 2), some (.int 8), some (.str LT), some (.int s), some (.ref h1.length), none, none, none]) (h1 := h1 ++ [.lst []]) (by
      have : 0 ≤ LIM := by decide
      generalize LT = L at *
      simp [ML.mSeq, ML.mSet, ML.mIf, ML.mRet, ML.mVar, ML.mC, ML.mOp, ML.mCB, ML.mCons, ML.mNil, ML.mB, ML.toB, ML.mLst, ML.mTup, ML.mSkip, ML.mSetIx, ML.mTAnd, ML.mTOr, ML.mTNot, ML.mAnd, ML.mOr, ML.mNot, ML.mIfE, ML.mIsN, ML.mBM, ML.mChain, ML.bndS, ML.mRetN, ML.mDrop, ML.mNeg, this])]
    rw [seq_nx (ρ1 := [some (.ref 0), some (.ref 1), some (.int 2), some (.int 8), some (.str LT), some (.int s), some (.ref h1.length), some (.int 1), some (.str b), q9]) (h1 := h3) (by
      unfold mFor
      have hi : iR1 (mVar 2) [some (.ref 0), some (.ref 1), some (.int 2), some (.int 8), some (.str LT), some (.int s), some (.ref h1.length), none, none, none] (h1 ++ [.lst []]) = some (.ok (rItems 0 2, fun _ => True) (h1 ++ [.lst []])) := by
        simp only [iR1]
        generalize LT = L at *
        simp [ML.mSeq, ML.mSet, ML.mIf, ML.mRet, ML.mVar, ML.mC, ML.mOp, ML.mCB, ML.mCons, ML.mNil, ML.mB, ML.toB, ML.mLst, ML.mTup, ML.mSkip, ML.mSetIx, ML.mTAnd, ML.mTOr, ML.mTNot, ML.mAnd, ML.mOr, ML.mNot, ML.mIfE, ML.mIsN, ML.mBM, ML.mChain, ML.bndS, ML.mRetN, ML.mDrop, ML.mNeg]
      rw [hi]
      show forC (fun _ => True) (gN 7) bodyN [U.int 0, .int 1] _ _ = _
      rw [for_cons (ρ1 := [some (.ref 0), some (.ref 1), some (.int 2), some (.int 8), some (.str LT), some (.int s), some (.ref h1.length), some (.int 0), none, none]) trivial rfl t1]
      rw [for_cons (ρ1 := [some (.ref 0), some (.ref 1), some (.int 2), some (.int 8), some (.str LT), some (.int s), some (.ref h1.length), some (.int 1), some (.str a), p9]) trivial rfl t2]
      exact for_nil trivial)]
    generalize LT = L at *
    simp [ML.mSeq, ML.mSet, ML.mIf, ML.mRet, ML.mVar, ML.mC, ML.mOp, ML.mCB, ML.mCons, ML.mNil, ML.mB, ML.toB, ML.mLst, ML.mTup, ML.mSkip, ML.mSetIx, ML.mTAnd, ML.mTOr, ML.mTNot, ML.mAnd, ML.mOr, ML.mNot, ML.mIfE, ML.mIsN, ML.mBM, ML.mChain, ML.bndS, ML.mRetN, ML.mDrop, ML.mNeg]
  unfold m__law_names mfun
  simp [key]
end K14

set_option maxHeartbeats 4000000
namespace K14
open PySem L2 ML
/-- right parts -/
structure Part (x y : Str) (o l d : Int) : Prop where
  x : Name x
  y : Name y
  o0 : 0 ≤ o
  ol : o ≤ l
  l1 : l ≤ 2880
  d0 : 0 ≤ d
  d1 : d ≤ 600
theorem Name.sc {t : Str} (h : Name t) : IsSc (.str t) := by show t.length ≤ 1000000; have := h.2.1; omega
theorem Name.nm {t : Str} (h : Name t) : nmOk (.str t) = true := by
  show ((decide (1 ≤ t.length) && decide (t.length ≤ 8)) && t.cps.toList.all isLet) = true
  rw [show t.cps.toList.all isLet = true from h.2.2, decide_eq_true h.1, decide_eq_true h.2.1]
  rfl
theorem Part.none {x y : Str} {o l d : Int} (p : Part x y o l d) : tellOf (.str x) (.str y) (.int o) (.int l) (.int d) = .non := by
  have m3 := num_in (i := o) (lo := 0) (hi := 2880) p.o0 (by have := p.ol; have := p.l1; omega)
  have m4 := num_in (i := l) (lo := o) (hi := 2880) p.ol p.l1
  have m5 := num_in (i := d) (lo := 0) (hi := 600) p.d0 p.d1
  simp [tellOf, p.x.nm, p.y.nm, m3, m4, m5, loOf]
abbrev rowU (x y : Str) (o l d : Int) : U := .tup [.str x, .str y, .int o, .int l, .int d]
abbrev sameB (x y : Str) (o l d : Int) (x' y' : Str) (o' l' d' : Int) : Bool := decide (x = x') && (decide (y = y') && (decide (o = o') && (decide (l = l') && decide (d = d'))))
theorem eqv_rows (x y : Str) (o l d : Int) (x' y' : Str) (o' l' d' : Int) : PyData.eqv (.tuple [.str x, .str y, .int o, .int l, .int d]) (.tuple [.str x', .str y', .int o', .int l', .int d']) = sameB x y o l d x' y' o' l' d' := by
  have hs : ∀ a b : Str, (a == b) = decide (a = b) := fun a b => by by_cases q : a = b <;> simp [q]
  have hi : ∀ a b : Int, (a == b) = decide (a = b) := fun a b => by by_cases q : a = b <;> simp [q]
  simp [PyData.eqv, PyData.eqvAll, sameB, hs, hi]
theorem shape_row {x y : Str} {o l d : Int} (hx : PyData.strOk x = true) (hy : PyData.strOk y = true) : SeqAt.shaped (.tuple [.str x, .str y, .int o, .int l, .int d]) = true := by
  simp [SeqAt.shaped, PyData.canLay0, PyData.canLayAll0, PyData.depth, PyData.depthAll, hx, hy]
theorem eq_rows {x y : Str} {o l d : Int} {x' y' : Str} {o' l' d' : Int} {h : Hm} (p : Part x y o l d) (p' : Part x' y' o' l' d') : oEq 3 (rowU x y o l d) (rowU x' y' o' l' d') h = some (.ok (.bl (sameB x y o l d x' y' o' l' d')) h) := by
  have s1 := shape_row (o := o) (l := l) (d := d) (strOk_let p.x.2.2) (strOk_let p.y.2.2)
  have s2 := shape_row (o := o') (l := l') (d := d') (strOk_let p'.x.2.2) (strOk_let p'.y.2.2)
  have e := eqv_rows x y o l d x' y' o' l' d'
  unfold oEq oEqS oEqD
  simp only [sEq, rowU, dW, dWs, s1, s2, e, Bool.and_self, if_true, Bool.bne_false]
theorem ne_row {x y : Str} {o l d : Int} {h : Hm} (p : Part x y o l d) : oNe 3 (rowU x y o l d) (rowU x y o l d) h = some (.ok (.bl false) h) := by
  have s1 := shape_row (o := o) (l := l) (d := d) (strOk_let p.x.2.2) (strOk_let p.y.2.2)
  have e := eqv_rows x y o l d x y o l d
  have t : sameB x y o l d x y o l d = true := by simp [sameB]
  rw [t] at e
  unfold oNe oEqS oEqD
  simp only [sEq, rowU, dW, dWs, s1, e, Bool.and_self, if_true]
  rfl
abbrev insU (x y : Str) (o l d : Int) : Cell := .ins 3 (fs5 (.str x) (.str y) (.int o) (.int l) (.int d))
theorem make {i : Nat} {ρ : Ev} {x y : Str} {o l d : Int} (hρ : ρ[i]? = some (some (rowU x y o l d))) (p : Part x y o l d) (h : Hm) : ∃ E, mMake 3 m_Meeting___init__ (args5 i) ρ h = some (.ok (.ref h.length) (h ++ [insU x y o l d] ++ E)) := by
  rcases make_out hρ p.x.sc p.y.sc trivial trivial trivial h with ⟨_, E, e⟩ | ⟨w, E, t, _⟩ | ⟨w, w2, E, t, _⟩
  · exact ⟨E, e⟩
  · rw [p.none] at t; cases t
  · rw [p.none] at t; cases t
theorem gets {x y : Str} {o l d : Int} : fget "name" (fs5 (.str x) (.str y) (.int o) (.int l) (.int d)) = some (.str x) ∧ fget "place" (fs5 (.str x) (.str y) (.int o) (.int l) (.int d)) = some (.str y) ∧ fget "opens" (fs5 (.str x) (.str y) (.int o) (.int l) (.int d)) = some (.int o) ∧
    fget "latest" (fs5 (.str x) (.str y) (.int o) (.int l) (.int d)) = some (.int l) ∧ fget "length" (fs5 (.str x) (.str y) (.int o) (.int l) (.int d)) = some (.int d) := by
  have a1 : ¬ (("place" : Str) = "name") := by decide +kernel
  have a2 : ¬ (("opens" : Str) = "name") := by decide +kernel
  have a3 : ¬ (("opens" : Str) = "place") := by decide +kernel
  have a4 : ¬ (("latest" : Str) = "name") := by decide +kernel
  have a5 : ¬ (("latest" : Str) = "place") := by decide +kernel
  have a6 : ¬ (("latest" : Str) = "opens") := by decide +kernel
  have a7 : ¬ (("length" : Str) = "name") := by decide +kernel
  have a8 : ¬ (("length" : Str) = "place") := by decide +kernel
  have a9 : ¬ (("length" : Str) = "opens") := by decide +kernel
  have a0 : ¬ (("length" : Str) = "latest") := by decide +kernel
  refine ⟨?_, ?_, ?_, ?_, ?_⟩ <;> simp [fs5, fget, a1, a2, a3, a4, a5, a6, a7, a8, a9, a0]
theorem at_ins {f : Str} {a b : Nat → Bool} {i j : Nat} {ρ : Ev} {H : Hm} {fs : List (Str × U)} {w : U} (h1 : ρ[i]? = some (some (.ref j))) (h2 : H[j]? = some (.ins 3 fs)) (ha : a 3 = true) (hf : fget f fs = some w) : mAttrX f a b (mVar i) ρ H = some (.ok w H) := by
  simp [mAttrX, mVar, h1, h2, ha, hf]
theorem own_eq {H : Hm} {i j : Nat} {x y : Str} {o l d : Int} {x' y' : Str} {o' l' d' : Int} (hi : H[i]? = some (insU x y o l d)) (hj : H[j]? = some (insU x' y' o' l' d')) : m_Meeting___eq__ [.ref i, .ref j] H = some (.ok (.bl (sameB x y o l d x' y' o' l' d')) H) := by
  obtain ⟨g1, g2, g3, g4, g5⟩ := gets (x := x) (y := y) (o := o) (l := l) (d := d)
  obtain ⟨k1, k2, k3, k4, k5⟩ := gets (x := x') (y := y') (o := o') (l := l') (d := d')
  have e0 : mIsi tab_Meeting (mVar 1) [some (.ref i), some (.ref j)] H = some (.ok (.bl true) H) := by simp [mIsi, mVar, tyK, hj, tab_Meeting, tabI]
  unfold m_Meeting___eq__ mfun b_Meeting___eq__
  have A := fun (f : Str) (a b : Nat → Bool) (w : U) ha hf => at_ins (f := f) (a := a) (b := b) (ρ := [some (.ref i), some (.ref j)]) (i := 0) (w := w) rfl hi ha hf
  have B := fun (f : Str) (a b : Nat → Bool) (w : U) ha hf => at_ins (f := f) (a := a) (b := b) (ρ := [some (.ref i), some (.ref j)]) (i := 1) (w := w) rfl hj ha hf
  have q1 := A "name" at_name_i at_name_e _ rfl g1
  have q2 := A "place" at_place_i at_place_e _ rfl g2
  have q3 := A "opens" at_opens_i at_opens_e _ rfl g3
  have q4 := A "latest" at_latest_i at_latest_e _ rfl g4
  have q5 := A "length" at_length_i at_length_e _ rfl g5
  have r1 := B "name" at_name_i at_name_e _ rfl k1
  have r2 := B "place" at_place_i at_place_e _ rfl k2
  have r3 := B "opens" at_opens_i at_opens_e _ rfl k3
  have r4 := B "latest" at_latest_i at_latest_e _ rfl k4
  have r5 := B "length" at_length_i at_length_e _ rfl k5
  unfold sameB
  by_cases z1 : x = x'
  · by_cases z2 : y = y'
    · by_cases z3 : o = o'
      · by_cases z4 : l = l'
        · simp [ML.mSeq, ML.mSet, ML.mIf, ML.mRet, ML.mVar, ML.mC, ML.mOp, ML.mCB, ML.mCons, ML.mNil, ML.mB, ML.toB, ML.mLst, ML.mTup, ML.mSkip, ML.mSetIx, ML.mTAnd, ML.mTOr, ML.mTNot, ML.mAnd, ML.mOr, ML.mNot, ML.mIfE, ML.mIsN, ML.mBM, ML.mChain, ML.bndS, ML.mRetN, ML.mDrop, ML.mNeg, e0, q1, q2, q3, q4, q5, r1, r2, r3, r4, r5, z1, z2, z3, z4]
        · simp [ML.mSeq, ML.mSet, ML.mIf, ML.mRet, ML.mVar, ML.mC, ML.mOp, ML.mCB, ML.mCons, ML.mNil, ML.mB, ML.toB, ML.mLst, ML.mTup, ML.mSkip, ML.mSetIx, ML.mTAnd, ML.mTOr, ML.mTNot, ML.mAnd, ML.mOr, ML.mNot, ML.mIfE, ML.mIsN, ML.mBM, ML.mChain, ML.bndS, ML.mRetN, ML.mDrop, ML.mNeg, e0, q1, q2, q3, q4, q5, r1, r2, r3, r4, r5, z1, z2, z3, z4]
      · simp [ML.mSeq, ML.mSet, ML.mIf, ML.mRet, ML.mVar, ML.mC, ML.mOp, ML.mCB, ML.mCons, ML.mNil, ML.mB, ML.toB, ML.mLst, ML.mTup, ML.mSkip, ML.mSetIx, ML.mTAnd, ML.mTOr, ML.mTNot, ML.mAnd, ML.mOr, ML.mNot, ML.mIfE, ML.mIsN, ML.mBM, ML.mChain, ML.bndS, ML.mRetN, ML.mDrop, ML.mNeg, e0, q1, q2, q3, q4, q5, r1, r2, r3, r4, r5, z1, z2, z3]
    · simp [ML.mSeq, ML.mSet, ML.mIf, ML.mRet, ML.mVar, ML.mC, ML.mOp, ML.mCB, ML.mCons, ML.mNil, ML.mB, ML.toB, ML.mLst, ML.mTup, ML.mSkip, ML.mSetIx, ML.mTAnd, ML.mTOr, ML.mTNot, ML.mAnd, ML.mOr, ML.mNot, ML.mIfE, ML.mIsN, ML.mBM, ML.mChain, ML.bndS, ML.mRetN, ML.mDrop, ML.mNeg, e0, q1, q2, q3, q4, q5, r1, r2, r3, r4, r5, z1, z2]
  · simp [ML.mSeq, ML.mSet, ML.mIf, ML.mRet, ML.mVar, ML.mC, ML.mOp, ML.mCB, ML.mCons, ML.mNil, ML.mB, ML.toB, ML.mLst, ML.mTup, ML.mSkip, ML.mSetIx, ML.mTAnd, ML.mTOr, ML.mTNot, ML.mAnd, ML.mOr, ML.mNot, ML.mIfE, ML.mIsN, ML.mBM, ML.mChain, ML.bndS, ML.mRetN, ML.mDrop, ML.mNeg, e0, q1, q2, q3, q4, q5, r1, r2, r3, r4, r5, z1]
end K14

set_option maxHeartbeats 4000000
namespace K14
open PySem L2 ML
theorem ix5 {x y : Str} {o l d : Int} (h : Hm) : oIx (rowU x y o l d) (.int 0) h = some (.ok (.str x) h) ∧ oIx (rowU x y o l d) (.int 1) h = some (.ok (.str y) h) ∧ oIx (rowU x y o l d) (.int 4) h = some (.ok (.int d) h) := ⟨rfl, rfl, rfl⟩
theorem two {xs : List U} {a b : U} (he : xs = [a, b]) {r : Int} (r0 : 0 ≤ r) (r1 : r < 2) {W : Nat} {h : Hm} (hW : rd h W = some xs) : ∃ w, (w = a ∨ w = b) ∧ oIx (.ref W) (.int r) h = some (.ok w h) := by
  subst he
  rcases (show r = 0 ∨ r = 1 by omega) with rfl | rfl
  · exact ⟨a, .inl rfl, ev_ix hW rfl⟩
  · exact ⟨b, .inr rfl, ev_ix hW rfl⟩
/-- Meeting equal, not equal: as the rows say -/
theorem same_stmt {H : Hm} {i j : Nat} {x y : Str} {o l d : Int} {x' y' : Str} {o' l' d' : Int} (p : Part x y o l d) (p' : Part x' y' o' l' d') (hi : H[i]? = some (insU x y o l d)) (hj : H[j]? = some (insU x' y' o' l' d')) (o0 o1 o2 o3 o4 o8 : Option U) :
    (mIf (mTOr (mB (mOp (oNe 3) (mOp (oOwnEq 3 nf_Meeting m_Meeting___eq__) (mVar 6) (mVar 9)) (mOp (oEq 3) (mVar 5) (mVar 7)))) (mB (mOp (oEq 3) (mOp (oOwnNe 3 nf_Meeting m_Meeting___eq__) (mVar 6) (mVar 9)) (mOp (oEq 3) (mVar 5) (mVar 7)))))
    (mRet (mC (.bl false))) mSkip) [o0, o1, o2, o3, o4, some (rowU x y o l d), some (.ref i), some (rowU x' y' o' l' d'), o8, some (.ref j)] H = some (.nx [o0, o1, o2, o3, o4, some (rowU x y o l d), some (.ref i), some (rowU x' y' o' l' d'), o8, some (.ref j)] H) := by
  have e1 := own_eq hi hj
  have e2 := eq_rows (h := H) p p'
  generalize sameB x y o l d x' y' o' l' d' = K at e1 e2
  have q1 : oOwnEq 3 nf_Meeting m_Meeting___eq__ (.ref i) (.ref j) H = some (.ok (.bl K) H) := by
    unfold oOwnEq
    simp only [hi, hj, nf_Meeting, decide_true, Bool.and_self, if_true, e1, noEx]
  have q2 : oOwnNe 3 nf_Meeting m_Meeting___eq__ (.ref i) (.ref j) H = some (.ok (.bl !K) H) := by
    unfold oOwnNe
    simp only [hi, hj, nf_Meeting, decide_true, Bool.and_self, if_true, e1, noEx, bnd_ok, notW]
  have q3 : oNe 3 (.bl K) (.bl K) H = some (.ok (.bl false) H) := ne_self_b
  have q4 : oEq 3 (.bl !K) (.bl K) H = some (.ok (.bl false) H) := by cases K <;> simp [oEq, oEqS, sEq]
  generalize rowU x y o l d = R1 at *
  generalize rowU x' y' o' l' d' = R2 at *
  simp [ML.mSeq, ML.mSet, ML.mIf, ML.mRet, ML.mVar, ML.mC, ML.mOp, ML.mCB, ML.mCons, ML.mNil, ML.mB, ML.toB, ML.mLst, ML.mTup, ML.mSkip, ML.mSetIx, ML.mTAnd, ML.mTOr, ML.mTNot, ML.mAnd, ML.mOr, ML.mNot, ML.mIfE, ML.mIsN, ML.mBM, ML.mChain, ML.bndS, ML.mRetN, ML.mDrop, ML.mNeg, q1, q2, e2, q3, q4]
where ne_self_b {K : Bool} {H : Hm} : oNe 3 (.bl K) (.bl K) H = some (.ok (.bl false) H) := by simp [oNe, oEqS, sEq]
theorem told_none {x y : Str} {o l d : Int} (p : Part x y o l d) (h : Hm) : ∃ E, m__law_told [rowU x y o l d] h = some (.ok .non (h ++ E)) := by
  obtain ⟨E, e⟩ := told (.str x) (.str y) (.int o) (.int l) (.int d) p.x.sc p.y.sc trivial trivial trivial h
  rw [p.none] at e
  exact ⟨E, e⟩
theorem name_a : Name "a" := ⟨by decide +kernel, by decide +kernel, by unfold allLet; decide +kernel⟩
theorem name_b : Name "b" := ⟨by decide +kernel, by decide +kernel, by unfold allLet; decide +kernel⟩
theorem law_spec (ns : List Int) (c : Cell) (hc : c = .lst (ns.map U.int) ∨ c = .frz (ns.map U.int)) : ∃ h', m_law [.ref 0] [c] = some (.ok (.bl true) h') := by
  have hr0 : rd [c] 0 = some (ns.map U.int) := by rcases hc with rfl | rfl <;> simp [rd]
  obtain ⟨a0, b0, ha, e1⟩ := start_spec ns [c] hr0
  have e1 : m__law_start [.ref 0] [c] = some (.ok (.ref 1) [c, .lst [.int a0, .int b0, .int 1, .int 0]]) := e1
  have g1 : Good ns ([c, .lst [.int a0, .int b0, .int 1, .int 0]]) := ⟨by rw [← hr0]; simp [rd], a0, b0, 1, 0, ha, by simp⟩
  obtain ⟨a, b, W, h2, na, nb, g2, hW1, hW, e2⟩ := names g1
  obtain ⟨o, h3, o0, o1, g3, k3, l3, e3⟩ := drawC g2 2881 (by decide) (by decide)
  obtain ⟨r4, h4, r40, r41, g4, k4, l4, e4⟩ := drawC g3 (2881 - o) (by omega) (by omega)
  obtain ⟨d, h5, d0, d1, g5, k5, l5, e5⟩ := drawC g4 601 (by decide) (by decide)
  have W4 : h4[W]? = some (.lst [.str a, .str b]) := by rw [k4 W hW1, k3 W hW1]; exact hW
  have W5 : h5[W]? = some (.lst [.str a, .str b]) := by rw [k5 W hW1]; exact W4
  have x0 : oIx (.ref W) (.int 0) h4 = some (.ok (.str a) h4) := ev_ix (ev_rdL W4) rfl
  have x1 : oIx (.ref W) (.int 1) h4 = some (.ok (.str b) h4) := ev_ix (ev_rdL W4) rfl
  have p : Part a b o (o + r4) d := ⟨na, nb, o0, by omega, by omega, d0, by omega⟩
  obtain ⟨E6, e6⟩ := make (i := 5) (ρ := [some (.ref 0), some (.ref 1), some (.ref W), some (.int o), some (.int (o + r4)), some (rowU a b o (o + r4) d), none, none, none, none]) rfl p h5
  obtain ⟨h6, hh6⟩ : ∃ h6, h6 = h5 ++ [insU a b o (o + r4) d] ++ E6 := ⟨_, rfl⟩
  have M6 : h6[h5.length]? = some (insU a b o (o + r4) d) := by rw [hh6]; exact get_mid
  have hm1 : h5.length ≠ 1 := by have := g5.len; omega
  rw [← hh6] at e6
  have g6 : Good ns h6 := by rw [hh6]; exact (g5.app _).app _
  have W6 : h6[W]? = some (.lst [.str a, .str b]) := by rw [hh6]; exact app_at _ (app_at _ W5)
  obtain ⟨i7, h7, i70, i71, g7, k7, l7, e7⟩ := drawC g6 2 (by decide) (by decide)
  have W7 : h7[W]? = some (.lst [.str a, .str b]) := by rw [k7 W hW1]; exact W6
  obtain ⟨u7, hu7, f7⟩ := two rfl i70 i71 (ev_rdL W7)
  obtain ⟨i8, h8, i80, i81, g8, k8, l8, e8⟩ := drawC g7 2 (by decide) (by decide)
  have W8 : h8[W]? = some (.lst [.str a, .str b]) := by rw [k8 W hW1]; exact W7
  obtain ⟨u8, hu8, f8⟩ := two rfl i80 i81 (ev_rdL W8)
  obtain ⟨kd, h9, kd0, kd1, g9, k9, l9, e9⟩ := drawC g8 6 (by decide) (by decide)
  have M9 : h9[h5.length]? = some (insU a b o (o + r4) d) := by rw [k9 _ hm1, k8 _ hm1, k7 _ hm1]; exact M6
  obtain ⟨x, rfl, nx⟩ : ∃ x, u7 = .str x ∧ Name x := by rcases hu7 with rfl | rfl <;> exact ⟨_, rfl, by assumption⟩
  obtain ⟨y, rfl, ny⟩ : ∃ y, u8 = .str y ∧ Name y := by rcases hu8 with rfl | rfl <;> exact ⟨_, rfl, by assumption⟩
  have p7 : Part x y o (o + r4) d := ⟨nx, ny, o0, by omega, by omega, d0, by omega⟩
  obtain ⟨y0, y1, y4⟩ := ix5 (x := a) (y := b) (o := o) (l := o + r4) (d := d) h9
  have y48 := (ix5 (x := a) (y := b) (o := o) (l := o + r4) (d := d) h8).2.2
  have h5L : 5 ≤ LIM := by decide
  -- the three changes
  have ch : ∃ x' y' o' l' d', Part x' y' o' l' d' ∧ ∀ rest : MS, (mSeq (mIf (mB (mOp (oEq 3) (mVar 8) (mC (.int 0))))
    (mSet 7 (mTup (mCons (mOp oIx (mVar 5) (mC (.int 0))) (mCons (mOp oIx (mVar 5) (mC (.int 1))) (mCons (mCB fMax2 (mCons (mC (.int 0)) (mCons (mCB fIntA2 (mCons (mOp oSub (mVar 3) (mC (.int 1))) mNil)) mNil))) (mCons (mVar 4) (mCons (mOp oIx (mVar 5) (mC (.int 4))) mNil)))))))
    mSkip)
    (mSeq (mIf (mB (mOp (oEq 3) (mVar 8) (mC (.int 1))))
    (mSet 7 (mTup (mCons (mOp oIx (mVar 5) (mC (.int 0))) (mCons (mOp oIx (mVar 5) (mC (.int 1))) (mCons (mVar 3) (mCons (mCB fMin2 (mCons (mC (.int 2880)) (mCons (mCB fIntA2 (mCons (mOp oAdd (mVar 4) (mC (.int 1))) mNil)) mNil))) (mCons (mOp oIx (mVar 5) (mC (.int 4))) mNil)))))))
    mSkip)
    (mSeq (mIf (mB (mOp (oEq 3) (mVar 8) (mC (.int 2))))
    (mSet 7 (mTup (mCons (mOp oIx (mVar 5) (mC (.int 0))) (mCons (mOp oIx (mVar 5) (mC (.int 1))) (mCons (mVar 3) (mCons (mVar 4) (mCons (mOp oSub (mC (.int 600)) (mOp oIx (mVar 5) (mC (.int 4)))) mNil)))))))
    mSkip) rest))) [some (.ref 0), some (.ref 1), some (.ref W), some (.int o), some (.int (o + r4)), some (rowU a b o (o + r4) d), some (.ref h5.length), some (rowU x y o (o + r4) d), some (.int kd), none] h9 = rest [some (.ref 0), some (.ref 1), some (.ref W), some (.int o), some (.int (o + r4)), some (rowU a b o (o + r4) d), some (.ref h5.length), some (rowU x' y' o' l' d'), some (.int kd), none] h9 := by
    by_cases c0 : kd = 0
    · subst c0
      refine ⟨a, b, if o - 1 > 0 then o - 1 else 0, o + r4, d, ⟨na, nb, by split <;> omega, by split <;> omega, by omega, d0, by omega⟩, fun rest => ?_⟩
      simp [ML.mSeq, ML.mSet, ML.mIf, ML.mRet, ML.mVar, ML.mC, ML.mOp, ML.mCB, ML.mCons, ML.mNil, ML.mB, ML.toB, ML.mLst, ML.mTup, ML.mSkip, ML.mSetIx, ML.mTAnd, ML.mTOr, ML.mTNot, ML.mAnd, ML.mOr, ML.mNot, ML.mIfE, ML.mIsN, ML.mBM, ML.mChain, ML.bndS, ML.mRetN, ML.mDrop, ML.mNeg, fMax2, y0, y1, y4, h5L]
    · by_cases c1 : kd = 1
      · subst c1
        refine ⟨a, b, o, if o + r4 + 1 < 2880 then o + r4 + 1 else 2880, d, ⟨na, nb, o0, by split <;> omega, by split <;> omega, d0, by omega⟩, fun rest => ?_⟩
        simp [ML.mSeq, ML.mSet, ML.mIf, ML.mRet, ML.mVar, ML.mC, ML.mOp, ML.mCB, ML.mCons, ML.mNil, ML.mB, ML.toB, ML.mLst, ML.mTup, ML.mSkip, ML.mSetIx, ML.mTAnd, ML.mTOr, ML.mTNot, ML.mAnd, ML.mOr, ML.mNot, ML.mIfE, ML.mIsN, ML.mBM, ML.mChain, ML.bndS, ML.mRetN, ML.mDrop, ML.mNeg, fMin2, y0, y1, y4, h5L]
      · by_cases c2 : kd = 2
        · subst c2
          refine ⟨a, b, o, o + r4, 600 - d, ⟨na, nb, o0, by omega, by omega, by omega, by omega⟩, fun rest => ?_⟩
          simp [ML.mSeq, ML.mSet, ML.mIf, ML.mRet, ML.mVar, ML.mC, ML.mOp, ML.mCB, ML.mCons, ML.mNil, ML.mB, ML.toB, ML.mLst, ML.mTup, ML.mSkip, ML.mSetIx, ML.mTAnd, ML.mTOr, ML.mTNot, ML.mAnd, ML.mOr, ML.mNot, ML.mIfE, ML.mIsN, ML.mBM, ML.mChain, ML.bndS, ML.mRetN, ML.mDrop, ML.mNeg, y0, y1, y4, h5L]
        · refine ⟨x, y, o, o + r4, d, p7, fun rest => ?_⟩
          simp [ML.mSeq, ML.mSet, ML.mIf, ML.mRet, ML.mVar, ML.mC, ML.mOp, ML.mCB, ML.mCons, ML.mNil, ML.mB, ML.toB, ML.mLst, ML.mTup, ML.mSkip, ML.mSetIx, ML.mTAnd, ML.mTOr, ML.mTNot, ML.mAnd, ML.mOr, ML.mNot, ML.mIfE, ML.mIsN, ML.mBM, ML.mChain, ML.bndS, ML.mRetN, ML.mDrop, ML.mNeg, c0, c1, c2]
  obtain ⟨x', y', o', l', d', p', ch⟩ := ch
  obtain ⟨E10, e10⟩ := make (i := 7) (ρ := [some (.ref 0), some (.ref 1), some (.ref W), some (.int o), some (.int (o + r4)), some (rowU a b o (o + r4) d), some (.ref h5.length), some (rowU x' y' o' l' d'), some (.int kd), none]) rfl p' h9
  obtain ⟨h10, hh10⟩ : ∃ h10, h10 = h9 ++ [insU x' y' o' l' d'] ++ E10 := ⟨_, rfl⟩
  rw [← hh10] at e10
  have M10 : h10[h5.length]? = some (insU a b o (o + r4) d) := by rw [hh10]; exact app_at _ (app_at _ M9)
  have S10 : h10[h9.length]? = some (insU x' y' o' l' d') := by rw [hh10]; exact get_mid
  have g10 : Good ns h10 := by rw [hh10]; exact (g9.app _).app _
  have st := same_stmt p p' M10 S10 (some (.ref 0)) (some (.ref 1)) (some (.ref W)) (some (.int o)) (some (.int (o + r4))) (some (.int kd))
  obtain ⟨E11, e11⟩ := told_none (x := "a") (y := "b") (o := 2880) (l := 2880) (d := 600) ⟨name_a, name_b, by decide, by decide, by decide, by decide, by decide⟩ h10
  obtain ⟨E12, e12⟩ := told_none (x := "a") (y := "a") (o := 0) (l := 0) (d := 0) ⟨name_a, name_a, by decide, by decide, by decide, by decide, by decide⟩ (h10 ++ E11)
  obtain ⟨hf, ef⟩ := refusals ((g10.app E11).app E12) (o := o) (l := o + r4) (d := d) na.sc nb.sc na.nm nb.nm o0 (by omega) (by omega) d0 (by omega)
  refine ⟨hf, ?_⟩
  have key : b_law [some (.ref 0), none, none, none, none, none, none, none, none, none] [c] = some (.rt (.bl true) hf) := by
    unfold b_law
    rw [seq_nx (ρ1 := [some (.ref 0), some (.ref 1), none, none, none, none, none, none, none, none]) (h1 := [c, .lst [.int a0, .int b0, .int 1, .int 0]]) (by simp [ML.mSeq, ML.mSet, ML.mIf, ML.mRet, ML.mVar, ML.mC, ML.mOp, ML.mCB, ML.mCons, ML.mNil, ML.mB, ML.toB, ML.mLst, ML.mTup, ML.mSkip, ML.mSetIx, ML.mTAnd, ML.mTOr, ML.mTNot, ML.mAnd, ML.mOr, ML.mNot, ML.mIfE, ML.mIsN, ML.mBM, ML.mChain, ML.bndS, ML.mRetN, ML.mDrop, ML.mNeg, e1])]
    rw [seq_nx (ρ1 := [some (.ref 0), some (.ref 1), some (.ref W), none, none, none, none, none, none, none]) (h1 := h2) (by simp [ML.mSeq, ML.mSet, ML.mIf, ML.mRet, ML.mVar, ML.mC, ML.mOp, ML.mCB, ML.mCons, ML.mNil, ML.mB, ML.toB, ML.mLst, ML.mTup, ML.mSkip, ML.mSetIx, ML.mTAnd, ML.mTOr, ML.mTNot, ML.mAnd, ML.mOr, ML.mNot, ML.mIfE, ML.mIsN, ML.mBM, ML.mChain, ML.bndS, ML.mRetN, ML.mDrop, ML.mNeg, e2])]
    rw [seq_nx (ρ1 := [some (.ref 0), some (.ref 1), some (.ref W), some (.int o), none, none, none, none, none, none]) (h1 := h3) (by simp [ML.mSeq, ML.mSet, ML.mIf, ML.mRet, ML.mVar, ML.mC, ML.mOp, ML.mCB, ML.mCons, ML.mNil, ML.mB, ML.toB, ML.mLst, ML.mTup, ML.mSkip, ML.mSetIx, ML.mTAnd, ML.mTOr, ML.mTNot, ML.mAnd, ML.mOr, ML.mNot, ML.mIfE, ML.mIsN, ML.mBM, ML.mChain, ML.bndS, ML.mRetN, ML.mDrop, ML.mNeg, e3])]
    rw [seq_nx (ρ1 := [some (.ref 0), some (.ref 1), some (.ref W), some (.int o), some (.int (o + r4)), none, none, none, none, none]) (h1 := h4) (by simp [ML.mSeq, ML.mSet, ML.mIf, ML.mRet, ML.mVar, ML.mC, ML.mOp, ML.mCB, ML.mCons, ML.mNil, ML.mB, ML.toB, ML.mLst, ML.mTup, ML.mSkip, ML.mSetIx, ML.mTAnd, ML.mTOr, ML.mTNot, ML.mAnd, ML.mOr, ML.mNot, ML.mIfE, ML.mIsN, ML.mBM, ML.mChain, ML.bndS, ML.mRetN, ML.mDrop, ML.mNeg, e4])]
    rw [seq_nx (ρ1 := [some (.ref 0), some (.ref 1), some (.ref W), some (.int o), some (.int (o + r4)), some (rowU a b o (o + r4) d), none, none, none, none]) (h1 := h5) (by simp [ML.mSeq, ML.mSet, ML.mIf, ML.mRet, ML.mVar, ML.mC, ML.mOp, ML.mCB, ML.mCons, ML.mNil, ML.mB, ML.toB, ML.mLst, ML.mTup, ML.mSkip, ML.mSetIx, ML.mTAnd, ML.mTOr, ML.mTNot, ML.mAnd, ML.mOr, ML.mNot, ML.mIfE, ML.mIsN, ML.mBM, ML.mChain, ML.bndS, ML.mRetN, ML.mDrop, ML.mNeg, x0, x1, e5, h5L])]
    rw [seq_nx (ρ1 := [some (.ref 0), some (.ref 1), some (.ref W), some (.int o), some (.int (o + r4)), some (rowU a b o (o + r4) d), some (.ref h5.length), none, none, none]) (h1 := h6) (by
      show mSet 6 (mMake 3 m_Meeting___init__ (args5 5)) _ _ = _
      unfold mSet
      rw [e6]
      rfl)]
    rw [seq_nx (ρ1 := [some (.ref 0), some (.ref 1), some (.ref W), some (.int o), some (.int (o + r4)), some (rowU a b o (o + r4) d), some (.ref h5.length), none, none, none]) (h1 := h6) (by
      obtain ⟨q1, q2, q3, q4, q5⟩ := gets (x := a) (y := b) (o := o) (l := o + r4) (d := d)
      have A := fun (f : Str) (a' b' : Nat → Bool) (w : U) ha hf => at_ins (f := f) (a := a') (b := b') (ρ := [some (.ref 0), some (.ref 1), some (.ref W), some (.int o), some (.int (o + r4)), some (rowU a b o (o + r4) d), some (.ref h5.length), none, none, none]) (i := 6) (w := w) rfl M6 ha hf
      have t1 := A "name" at_name_i at_name_e _ rfl q1
      have t2 := A "place" at_place_i at_place_e _ rfl q2
      have t3 := A "opens" at_opens_i at_opens_e _ rfl q3
      have t4 := A "latest" at_latest_i at_latest_e _ rfl q4
      have t5 := A "length" at_length_i at_length_e _ rfl q5
      have t6 := ne_row (h := h6) p
      simp [ML.mSeq, ML.mSet, ML.mIf, ML.mRet, ML.mVar, ML.mC, ML.mOp, ML.mCB, ML.mCons, ML.mNil, ML.mB, ML.toB, ML.mLst, ML.mTup, ML.mSkip, ML.mSetIx, ML.mTAnd, ML.mTOr, ML.mTNot, ML.mAnd, ML.mOr, ML.mNot, ML.mIfE, ML.mIsN, ML.mBM, ML.mChain, ML.bndS, ML.mRetN, ML.mDrop, ML.mNeg, t1, t2, t3, t4, t5, t6, h5L])]
    rw [seq_nx (ρ1 := [some (.ref 0), some (.ref 1), some (.ref W), some (.int o), some (.int (o + r4)), some (rowU a b o (o + r4) d), some (.ref h5.length), some (rowU x y o (o + r4) d), none, none]) (h1 := h8) (by simp [ML.mSeq, ML.mSet, ML.mIf, ML.mRet, ML.mVar, ML.mC, ML.mOp, ML.mCB, ML.mCons, ML.mNil, ML.mB, ML.toB, ML.mLst, ML.mTup, ML.mSkip, ML.mSetIx, ML.mTAnd, ML.mTOr, ML.mTNot, ML.mAnd, ML.mOr, ML.mNot, ML.mIfE, ML.mIsN, ML.mBM, ML.mChain, ML.bndS, ML.mRetN, ML.mDrop, ML.mNeg, e7, f7, e8, f8, y48, h5L])]
    rw [seq_nx (ρ1 := [some (.ref 0), some (.ref 1), some (.ref W), some (.int o), some (.int (o + r4)), some (rowU a b o (o + r4) d), some (.ref h5.length), some (rowU x y o (o + r4) d), some (.int kd), none]) (h1 := h9) (by simp [ML.mSeq, ML.mSet, ML.mIf, ML.mRet, ML.mVar, ML.mC, ML.mOp, ML.mCB, ML.mCons, ML.mNil, ML.mB, ML.toB, ML.mLst, ML.mTup, ML.mSkip, ML.mSetIx, ML.mTAnd, ML.mTOr, ML.mTNot, ML.mAnd, ML.mOr, ML.mNot, ML.mIfE, ML.mIsN, ML.mBM, ML.mChain, ML.bndS, ML.mRetN, ML.mDrop, ML.mNeg, e9])]
    rw [ch]
    rw [seq_nx (ρ1 := [some (.ref 0), some (.ref 1), some (.ref W), some (.int o), some (.int (o + r4)), some (rowU a b o (o + r4) d), some (.ref h5.length), some (rowU x' y' o' l' d'), some (.int kd), some (.ref h9.length)]) (h1 := h10) (by
      show mSet 9 (mMake 3 m_Meeting___init__ (args5 7)) _ _ = _
      unfold mSet
      rw [e10]
      rfl)]
    rw [seq_nx st]
    generalize hR : rowU a b o (o + r4) d = R at *
    generalize rowU x' y' o' l' d' = R2 at *
    generalize hH12 : h10 ++ E11 ++ E12 = H12 at *
    generalize h10 ++ E11 = H11 at *
    rw [seq_nx (ρ1 := [some (.ref 0), some (.ref 1), some (.ref W), some (.int o), some (.int (o + r4)), some R, some (.ref h5.length), some R2, some (.int kd), some (.ref h9.length)]) (h1 := H12) (by
      simp [ML.mSeq, ML.mSet, ML.mIf, ML.mRet, ML.mVar, ML.mC, ML.mOp, ML.mCB, ML.mCons, ML.mNil, ML.mB, ML.toB, ML.mLst, ML.mTup, ML.mSkip, ML.mSetIx, ML.mTAnd, ML.mTOr, ML.mTNot, ML.mAnd, ML.mOr, ML.mNot, ML.mIfE, ML.mIsN, ML.mBM, ML.mChain, ML.bndS, ML.mRetN, ML.mDrop, ML.mNeg, e11, e12, h5L, ML.isNon])]
    have ef' : m__law_refusals_hold [.ref 0, .ref 1, R] H12 = some (.ok (.bl true) hf) := by rw [← hR]; exact ef
    simp [ML.mSeq, ML.mSet, ML.mIf, ML.mRet, ML.mVar, ML.mC, ML.mOp, ML.mCB, ML.mCons, ML.mNil, ML.mB, ML.toB, ML.mLst, ML.mTup, ML.mSkip, ML.mSetIx, ML.mTAnd, ML.mTOr, ML.mTNot, ML.mAnd, ML.mOr, ML.mNot, ML.mIfE, ML.mIsN, ML.mBM, ML.mChain, ML.bndS, ML.mRetN, ML.mDrop, ML.mNeg, ef']
  unfold m_law mfun
  simp [key]
end K14

set_option maxHeartbeats 4000000
namespace K14
open PySem L2 ML
abbrev i_BadName : Stmt := inClass (topS 2) 0
theorem si_BadName : SupScope ["self", "name"] ["self", "name"] (defScope i_BadName) := ⟨rfl, rfl, rfl, by decide +kernel, rfl, by decide +kernel, by decide +kernel, by decide +kernel, by decide +kernel, by decide +kernel⟩
abbrev i_BadNumber : Stmt := inClass (topS 3) 0
theorem si_BadNumber : SupScope ["self", "what", "value"] ["self", "what", "value"] (defScope i_BadNumber) := ⟨rfl, rfl, rfl, by decide +kernel, rfl, by decide +kernel, by decide +kernel, by decide +kernel, by decide +kernel, by decide +kernel⟩
theorem all_mk {P : Program} {w : World} {K : PySem.W.Frag} {h : Heap} {mg : Str → Option Value} {fa : Addr} (X : K.In h) (Gn : h.Ns mainGlobals mg) (hfa : mg "law" = some (.ref fa)) (hfile : ((P.main.file : Str) == ("/claim/cut.py" : Str)) = true) (htop : (P.main.scope.names.lookup ("super" : Str)).isSome = false)
    {tk_LAST_MINUTE : Tok}
    {tk_LETTERS : Tok}
    {tk_LONGEST_MEETING : Tok}
    {C_CalendarError : Addr}
    {C_BadName : Addr}
    {C_BadNumber : Addr}
    {nm_CalendarError qn_CalendarError : Str} {N_CalendarError : Addr} {bs_CalendarError bm_CalendarError : List Value} {sn_CalendarError : List Str} {sub_CalendarError : List Value} {ab_CalendarError : Bool} {col_CalendarError : Option Bool} {dd_CalendarError : Option Addr} {m0_CalendarError m1_CalendarError m2_CalendarError m3_CalendarError m5_CalendarError : Option Value}
    {nm_BadName qn_BadName : Str} {N_BadName : Addr} {bs_BadName : List Value} {sn_BadName : List Str} {sub_BadName : List Value} {ab_BadName : Bool} {col_BadName : Option Bool} {dd_BadName : Option Addr} {m0_BadName m1_BadName m2_BadName m3_BadName m5_BadName : Option Value}
    {nm_BadNumber qn_BadNumber : Str} {N_BadNumber : Addr} {bs_BadNumber : List Value} {sn_BadNumber : List Str} {sub_BadNumber : List Value} {ab_BadNumber : Bool} {col_BadNumber : Option Bool} {dd_BadNumber : Option Addr} {m0_BadNumber m1_BadNumber m2_BadNumber m3_BadNumber m5_BadNumber : Option Value}
    {fI_BadName cc_BadName cda_BadName : Addr} {oc_BadName kV_BadName dc_BadName pm_BadName ct_BadName : Value} {od_BadName an_BadName : Option Addr} {sl_BadName : Array (Option Value)} {ccl_BadName : Value} {cdd_BadName : Option Addr} {vs_BadName : Array Value} {ccs_BadName : Array (Option Value)} {tf_BadName : Tok} {cl2_BadName : Value} {cld_BadName : Option Addr} {csl_BadName : Array (Option Value)}
    {fI_BadNumber cc_BadNumber cda_BadNumber : Addr} {oc_BadNumber kV_BadNumber dc_BadNumber pm_BadNumber ct_BadNumber : Value} {od_BadNumber an_BadNumber : Option Addr} {sl_BadNumber : Array (Option Value)} {ccl_BadNumber : Value} {cdd_BadNumber : Option Addr} {vs_BadNumber : Array Value} {ccs_BadNumber : Array (Option Value)} {tf_BadNumber : Tok} {cl2_BadNumber : Value} {cld_BadNumber : Option Addr} {csl_BadNumber : Array (Option Value)}
    {C_Meeting : Addr}
    {f_Meeting___init__ : Addr} {od_Meeting___init__ an_Meeting___init__ : Option Addr} {sl_Meeting___init__ : Array (Option Value)} {oc_Meeting___init__ kV_Meeting___init__ dc_Meeting___init__ pm_Meeting___init__ cd_Meeting___init__ ct_Meeting___init__ : Value}
    {f_Meeting___eq__ : Addr} {od_Meeting___eq__ an_Meeting___eq__ : Option Addr} {sl_Meeting___eq__ : Array (Option Value)} {oc_Meeting___eq__ kV_Meeting___eq__ dc_Meeting___eq__ pm_Meeting___eq__ cd_Meeting___eq__ ct_Meeting___eq__ : Value}
    {f_is_name : Addr} {od_is_name an_is_name : Option Addr} {sl_is_name : Array (Option Value)} {oc_is_name kV_is_name dc_is_name pm_is_name cd_is_name ct_is_name : Value}
    {f_check_name : Addr} {od_check_name an_check_name : Option Addr} {sl_check_name : Array (Option Value)} {oc_check_name kV_check_name dc_check_name pm_check_name cd_check_name ct_check_name : Value}
    {f_is_integer : Addr} {od_is_integer an_is_integer : Option Addr} {sl_is_integer : Array (Option Value)} {oc_is_integer kV_is_integer dc_is_integer pm_is_integer cd_is_integer ct_is_integer : Value}
    {f_check_integer : Addr} {od_check_integer an_check_integer : Option Addr} {sl_check_integer : Array (Option Value)} {oc_check_integer kV_check_integer dc_check_integer pm_check_integer cd_check_integer ct_check_integer : Value}
    {f_check_number : Addr} {od_check_number an_check_number : Option Addr} {sl_check_number : Array (Option Value)} {oc_check_number kV_check_number dc_check_number pm_check_number cd_check_number ct_check_number : Value}
    {f_check_times : Addr} {od_check_times an_check_times : Option Addr} {sl_check_times : Array (Option Value)} {oc_check_times kV_check_times dc_check_times pm_check_times cd_check_times ct_check_times : Value}
    {f__law_start : Addr} {od__law_start an__law_start : Option Addr} {sl__law_start : Array (Option Value)} {oc__law_start kV__law_start dc__law_start pm__law_start cd__law_start ct__law_start : Value}
    {f__law_draw : Addr} {od__law_draw an__law_draw : Option Addr} {sl__law_draw : Array (Option Value)} {oc__law_draw kV__law_draw dc__law_draw pm__law_draw cd__law_draw ct__law_draw : Value}
    {f__law_names : Addr} {od__law_names an__law_names : Option Addr} {sl__law_names : Array (Option Value)} {oc__law_names kV__law_names dc__law_names pm__law_names cd__law_names ct__law_names : Value}
    {f__law_told : Addr} {od__law_told an__law_told : Option Addr} {sl__law_told : Array (Option Value)} {oc__law_told kV__law_told dc__law_told pm__law_told cd__law_told ct__law_told : Value}
    {f__law_refusals_hold : Addr} {od__law_refusals_hold an__law_refusals_hold : Option Addr} {sl__law_refusals_hold : Array (Option Value)} {oc__law_refusals_hold kV__law_refusals_hold dc__law_refusals_hold pm__law_refusals_hold cd__law_refusals_hold ct__law_refusals_hold : Value}
    {f_law : Addr} {od_law an_law : Option Addr} {sl_law : Array (Option Value)} {oc_law kV_law dc_law pm_law cd_law ct_law : Value}
    (z_abs : PySem.W.nsIn K mainGlobals "abs" = some none)
    (z_all : PySem.W.nsIn K mainGlobals "all" = some none)
    (z_bool : PySem.W.nsIn K mainGlobals "bool" = some none)
    (z_int : PySem.W.nsIn K mainGlobals "int" = some none)
    (z_isinstance : PySem.W.nsIn K mainGlobals "isinstance" = some none)
    (z_len : PySem.W.nsIn K mainGlobals "len" = some none)
    (z_max : PySem.W.nsIn K mainGlobals "max" = some none)
    (z_min : PySem.W.nsIn K mainGlobals "min" = some none)
    (z_range : PySem.W.nsIn K mainGlobals "range" = some none)
    (z_str : PySem.W.nsIn K mainGlobals "str" = some none)
    (k_LAST_MINUTE : PySem.W.nsIn K mainGlobals "LAST_MINUTE" = some (some (.int 2880 tk_LAST_MINUTE)))
    (k_LETTERS : PySem.W.nsIn K mainGlobals "LETTERS" = some (some (.str "abcdefghijklmnopqrstuvwxyz" tk_LETTERS)))
    (k_LONGEST_MEETING : PySem.W.nsIn K mainGlobals "LONGEST_MEETING" = some (some (.int 600 tk_LONGEST_MEETING)))
    (z_super : PySem.W.nsIn K mainGlobals "super" = some none)
    (z_tp : PySem.W.nsIn K cStatics "thirdparty.any" = some none)
    (x_hn : PySem.W.specialIn K (.builtin "object.__class__") "__get__" = some (some (.builtin "getset_descriptor.__get__")))
    (x_ht : PySem.W.takesIn K (.builtin "object.__class__") = some true)
    (aC_CalendarError : PySem.W.nsIn K mainGlobals "CalendarError" = some (some (.ref C_CalendarError)))
    (aC_BadName : PySem.W.nsIn K mainGlobals "BadName" = some (some (.ref C_BadName)))
    (aC_BadNumber : PySem.W.nsIn K mainGlobals "BadNumber" = some (some (.ref C_BadNumber)))
    (xL_CalendarError : K.lookup C_CalendarError = some (excClassObj nm_CalendarError qn_CalendarError C_CalendarError N_CalendarError bs_CalendarError bm_CalendarError true sn_CalendarError sub_CalendarError ab_CalendarError col_CalendarError dd_CalendarError m0_CalendarError m1_CalendarError m2_CalendarError m3_CalendarError m5_CalendarError "ValueError.__new__"))
    (eC_CalendarError : PySem.W.subIn K (.ref C_CalendarError) (.type "BaseException") = some true)
    (tC_CalendarError : PySem.W.typeIn K (.ref C_CalendarError) = some (.type "type"))
    (cl_CalendarError : PySem.W.isClsIn K C_CalendarError = true)
    (mr_CalendarError : PySem.W.mroIn K C_CalendarError (.ref C_CalendarError) = some true)
    (sb_CalendarError_BadName : PySem.W.subIn K (.ref C_BadName) (.ref C_CalendarError) = some true)
    (sb_CalendarError_BadNumber : PySem.W.subIn K (.ref C_BadNumber) (.ref C_CalendarError) = some true)
    (xL_BadName : K.lookup C_BadName = some (excClassObj nm_BadName qn_BadName C_BadName N_BadName bs_BadName (.ref C_CalendarError :: bm_CalendarError) true sn_BadName sub_BadName ab_BadName col_BadName dd_BadName m0_BadName m1_BadName m2_BadName m3_BadName m5_BadName "ValueError.__new__"))
    (eC_BadName : PySem.W.subIn K (.ref C_BadName) (.type "BaseException") = some true)
    (tC_BadName : PySem.W.typeIn K (.ref C_BadName) = some (.type "type"))
    (cl_BadName : PySem.W.isClsIn K C_BadName = true)
    (mr_BadName : PySem.W.mroIn K C_BadName (.ref C_BadName) = some true)
    (sb_BadName_BadName : PySem.W.subIn K (.ref C_BadName) (.ref C_BadName) = some true)
    (sb_BadName_BadNumber : PySem.W.subIn K (.ref C_BadNumber) (.ref C_BadName) = some false)
    (xL_BadNumber : K.lookup C_BadNumber = some (excClassObj nm_BadNumber qn_BadNumber C_BadNumber N_BadNumber bs_BadNumber (.ref C_CalendarError :: bm_CalendarError) true sn_BadNumber sub_BadNumber ab_BadNumber col_BadNumber dd_BadNumber m0_BadNumber m1_BadNumber m2_BadNumber m3_BadNumber m5_BadNumber "ValueError.__new__"))
    (eC_BadNumber : PySem.W.subIn K (.ref C_BadNumber) (.type "BaseException") = some true)
    (tC_BadNumber : PySem.W.typeIn K (.ref C_BadNumber) = some (.type "type"))
    (cl_BadNumber : PySem.W.isClsIn K C_BadNumber = true)
    (mr_BadNumber : PySem.W.mroIn K C_BadNumber (.ref C_BadNumber) = some true)
    (sb_BadNumber_BadName : PySem.W.subIn K (.ref C_BadName) (.ref C_BadNumber) = some false)
    (sb_BadNumber_BadNumber : PySem.W.subIn K (.ref C_BadNumber) (.ref C_BadNumber) = some true)
    (fi_CalendarError : PySem.W.findIn K (.ref C_CalendarError) "__init__" = some (some (.builtin "ValueError.__init__")))
    (rb_BadName : HandSPX.refsVE (.ref C_CalendarError :: bm_CalendarError) = true)
    (sa_BadName : PySem.W.findIn K (.ref C_BadName) "__setattr__" = some (some (.builtin "object.__setattr__")))
    (kC_BadName : PySem.W.keepIn K (.ref C_BadName) = true)
    (ga_BadName : PySem.W.findIn K (.ref C_BadName) "__getattribute__" = some (some (.builtin "BaseException.__getattribute__")))
    (gg_BadName : PySem.W.findIn K (.ref C_BadName) "__getattr__" = some none)
    (hd_BadName : PySem.W.hasDictIn K C_BadName = true)
    (ha_BadName : PySem.W.findIn K (.ref C_BadName) "__class__" = some (some (.builtin "object.__class__")))
    (hm_BadName : PySem.W.mroIn K C_BadName (.type "object") = some true)
    (sv_BadName : PySem.W.subIn K (.ref C_BadName) (.type "ValueError") = some true)
    (nf_BadName_name : PySem.W.findIn K (.ref C_BadName) "name" = some none)
    (rb_BadNumber : HandSPX.refsVE (.ref C_CalendarError :: bm_CalendarError) = true)
    (sa_BadNumber : PySem.W.findIn K (.ref C_BadNumber) "__setattr__" = some (some (.builtin "object.__setattr__")))
    (kC_BadNumber : PySem.W.keepIn K (.ref C_BadNumber) = true)
    (ga_BadNumber : PySem.W.findIn K (.ref C_BadNumber) "__getattribute__" = some (some (.builtin "BaseException.__getattribute__")))
    (gg_BadNumber : PySem.W.findIn K (.ref C_BadNumber) "__getattr__" = some none)
    (hd_BadNumber : PySem.W.hasDictIn K C_BadNumber = true)
    (ha_BadNumber : PySem.W.findIn K (.ref C_BadNumber) "__class__" = some (some (.builtin "object.__class__")))
    (hm_BadNumber : PySem.W.mroIn K C_BadNumber (.type "object") = some true)
    (sv_BadNumber : PySem.W.subIn K (.ref C_BadNumber) (.type "ValueError") = some true)
    (nf_BadNumber_what : PySem.W.findIn K (.ref C_BadNumber) "what" = some none)
    (nf_BadNumber_value : PySem.W.findIn K (.ref C_BadNumber) "value" = some none)
    (iC_BadName : PySem.W.findIn K (.ref C_BadName) "__init__" = some (some (.ref fI_BadName)))
    (tI_BadName : PySem.W.typeIn K (.ref fI_BadName) = some (.type "function"))
    (lI_BadName : K.lookup fI_BadName = some ⟨oc_BadName, od_BadName, .func (PySem.W.ksFn "__init__" "BadName.__init__" (defArgs i_BadName) (defBody i_BadName) (defScope i_BadName) .none kV_BadName dc_BadName pm_BadName an_BadName (.ref cda_BadName) ct_BadName cc_BadName), sl_BadName⟩)
    (lC_BadName : K.lookup cda_BadName = some ⟨ccl_BadName, cdd_BadName, .fields vs_BadName, ccs_BadName⟩)
    (vC_BadName : vs_BadName[2]? = some (.str "/claim/cut.py" tf_BadName))
    (cQ_BadName : PySem.W.codeIn K (.ref cda_BadName) "BadName.__init__" = true)
    (ce_BadName : K.lookup cc_BadName = some ⟨cl2_BadName, cld_BadName, .cell (some (.ref C_BadName)), csl_BadName⟩)
    (iC_BadNumber : PySem.W.findIn K (.ref C_BadNumber) "__init__" = some (some (.ref fI_BadNumber)))
    (tI_BadNumber : PySem.W.typeIn K (.ref fI_BadNumber) = some (.type "function"))
    (lI_BadNumber : K.lookup fI_BadNumber = some ⟨oc_BadNumber, od_BadNumber, .func (PySem.W.ksFn "__init__" "BadNumber.__init__" (defArgs i_BadNumber) (defBody i_BadNumber) (defScope i_BadNumber) .none kV_BadNumber dc_BadNumber pm_BadNumber an_BadNumber (.ref cda_BadNumber) ct_BadNumber cc_BadNumber), sl_BadNumber⟩)
    (lC_BadNumber : K.lookup cda_BadNumber = some ⟨ccl_BadNumber, cdd_BadNumber, .fields vs_BadNumber, ccs_BadNumber⟩)
    (vC_BadNumber : vs_BadNumber[2]? = some (.str "/claim/cut.py" tf_BadNumber))
    (cQ_BadNumber : PySem.W.codeIn K (.ref cda_BadNumber) "BadNumber.__init__" = true)
    (ce_BadNumber : K.lookup cc_BadNumber = some ⟨cl2_BadNumber, cld_BadNumber, .cell (some (.ref C_BadNumber)), csl_BadNumber⟩)
    (aC_Meeting : PySem.W.nsIn K mainGlobals "Meeting" = some (some (.ref C_Meeting)))
    (pg_Meeting : PySem.W.plainGet K C_Meeting Str.empty = true)
    (hdI_Meeting : PySem.W.hasDictIn K C_Meeting = true)
    (po_Meeting : PySem.W.plainOver K C_Meeting = true)
    (saI_Meeting : PySem.W.findIn K (.ref C_Meeting) "__setattr__" = some (some (.builtin "object.__setattr__")))
    (mkI_Meeting : PySem.W.makesIn K C_Meeting = true)
    (kcI_Meeting : PySem.W.keepIn K (.ref C_Meeting) = true)
    (haI_Meeting : PySem.W.findIn K (.ref C_Meeting) "__class__" = some (some (.builtin "object.__class__")))
    (hmI_Meeting : PySem.W.mroIn K C_Meeting (.type "object") = some true)
    (nI_Meeting_latest : PySem.W.findIn K (.ref C_Meeting) "latest" = some none)
    (nI_Meeting_length : PySem.W.findIn K (.ref C_Meeting) "length" = some none)
    (nI_Meeting_name : PySem.W.findIn K (.ref C_Meeting) "name" = some none)
    (nI_Meeting_opens : PySem.W.findIn K (.ref C_Meeting) "opens" = some none)
    (nI_Meeting_place : PySem.W.findIn K (.ref C_Meeting) "place" = some none)
    (neI_Meeting : PySem.W.findIn K (.ref C_Meeting) "__ne__" = some (some (.builtin "object.__ne__")))
    (obI_Meeting : PySem.W.subIn K (.ref C_Meeting) (.type "object") = some true)
    (a_Meeting___init__ : PySem.W.findIn K (.ref C_Meeting) "__init__" = some (some (.ref f_Meeting___init__)))
    (i_Meeting___init__ : PySem.W.isFn K (.ref f_Meeting___init__) = true)
    (l_Meeting___init__ : K.lookup f_Meeting___init__ = some ⟨oc_Meeting___init__, od_Meeting___init__, .func (PySem.W.fnOf "__init__" "Meeting.__init__" (defArgs t_Meeting___init__) (defBody t_Meeting___init__) (defScope t_Meeting___init__) .none kV_Meeting___init__ dc_Meeting___init__ pm_Meeting___init__ an_Meeting___init__ cd_Meeting___init__ ct_Meeting___init__), sl_Meeting___init__⟩)
    (c_Meeting___init__ : PySem.W.codeIn K cd_Meeting___init__ "Meeting.__init__" = true)
    (k_Meeting___init__ : PySem.W.keepIn K (.ref f_Meeting___init__) = true)
    (a_Meeting___eq__ : PySem.W.findIn K (.ref C_Meeting) "__eq__" = some (some (.ref f_Meeting___eq__)))
    (i_Meeting___eq__ : PySem.W.isFn K (.ref f_Meeting___eq__) = true)
    (l_Meeting___eq__ : K.lookup f_Meeting___eq__ = some ⟨oc_Meeting___eq__, od_Meeting___eq__, .func (PySem.W.fnOf "__eq__" "Meeting.__eq__" (defArgs t_Meeting___eq__) (defBody t_Meeting___eq__) (defScope t_Meeting___eq__) .none kV_Meeting___eq__ dc_Meeting___eq__ pm_Meeting___eq__ an_Meeting___eq__ cd_Meeting___eq__ ct_Meeting___eq__), sl_Meeting___eq__⟩)
    (c_Meeting___eq__ : PySem.W.codeIn K cd_Meeting___eq__ "Meeting.__eq__" = true)
    (k_Meeting___eq__ : PySem.W.keepIn K (.ref f_Meeting___eq__) = true)
    (a_is_name : PySem.W.nsIn K mainGlobals "is_name" = some (some (.ref f_is_name)))
    (l_is_name : K.lookup f_is_name = some ⟨oc_is_name, od_is_name, .func (PySem.W.fnOf "is_name" "is_name" (defArgs t_is_name) (defBody t_is_name) (defScope t_is_name) .none kV_is_name dc_is_name pm_is_name an_is_name cd_is_name ct_is_name), sl_is_name⟩)
    (c_is_name : PySem.W.codeIn K cd_is_name "is_name" = true)
    (k_is_name : PySem.W.keepIn K (.ref f_is_name) = true)
    (a_check_name : PySem.W.nsIn K mainGlobals "check_name" = some (some (.ref f_check_name)))
    (l_check_name : K.lookup f_check_name = some ⟨oc_check_name, od_check_name, .func (PySem.W.fnOf "check_name" "check_name" (defArgs t_check_name) (defBody t_check_name) (defScope t_check_name) .none kV_check_name dc_check_name pm_check_name an_check_name cd_check_name ct_check_name), sl_check_name⟩)
    (c_check_name : PySem.W.codeIn K cd_check_name "check_name" = true)
    (k_check_name : PySem.W.keepIn K (.ref f_check_name) = true)
    (a_is_integer : PySem.W.nsIn K mainGlobals "is_integer" = some (some (.ref f_is_integer)))
    (l_is_integer : K.lookup f_is_integer = some ⟨oc_is_integer, od_is_integer, .func (PySem.W.fnOf "is_integer" "is_integer" (defArgs t_is_integer) (defBody t_is_integer) (defScope t_is_integer) .none kV_is_integer dc_is_integer pm_is_integer an_is_integer cd_is_integer ct_is_integer), sl_is_integer⟩)
    (c_is_integer : PySem.W.codeIn K cd_is_integer "is_integer" = true)
    (k_is_integer : PySem.W.keepIn K (.ref f_is_integer) = true)
    (a_check_integer : PySem.W.nsIn K mainGlobals "check_integer" = some (some (.ref f_check_integer)))
    (l_check_integer : K.lookup f_check_integer = some ⟨oc_check_integer, od_check_integer, .func (PySem.W.fnOf "check_integer" "check_integer" (defArgs t_check_integer) (defBody t_check_integer) (defScope t_check_integer) .none kV_check_integer dc_check_integer pm_check_integer an_check_integer cd_check_integer ct_check_integer), sl_check_integer⟩)
    (c_check_integer : PySem.W.codeIn K cd_check_integer "check_integer" = true)
    (k_check_integer : PySem.W.keepIn K (.ref f_check_integer) = true)
    (a_check_number : PySem.W.nsIn K mainGlobals "check_number" = some (some (.ref f_check_number)))
    (l_check_number : K.lookup f_check_number = some ⟨oc_check_number, od_check_number, .func (PySem.W.fnOf "check_number" "check_number" (defArgs t_check_number) (defBody t_check_number) (defScope t_check_number) .none kV_check_number dc_check_number pm_check_number an_check_number cd_check_number ct_check_number), sl_check_number⟩)
    (c_check_number : PySem.W.codeIn K cd_check_number "check_number" = true)
    (k_check_number : PySem.W.keepIn K (.ref f_check_number) = true)
    (a_check_times : PySem.W.nsIn K mainGlobals "check_times" = some (some (.ref f_check_times)))
    (l_check_times : K.lookup f_check_times = some ⟨oc_check_times, od_check_times, .func (PySem.W.fnOf "check_times" "check_times" (defArgs t_check_times) (defBody t_check_times) (defScope t_check_times) .none kV_check_times dc_check_times pm_check_times an_check_times cd_check_times ct_check_times), sl_check_times⟩)
    (c_check_times : PySem.W.codeIn K cd_check_times "check_times" = true)
    (k_check_times : PySem.W.keepIn K (.ref f_check_times) = true)
    (a__law_start : PySem.W.nsIn K mainGlobals "_law_start" = some (some (.ref f__law_start)))
    (l__law_start : K.lookup f__law_start = some ⟨oc__law_start, od__law_start, .func (PySem.W.fnOf "_law_start" "_law_start" (defArgs t__law_start) (defBody t__law_start) (defScope t__law_start) .none kV__law_start dc__law_start pm__law_start an__law_start cd__law_start ct__law_start), sl__law_start⟩)
    (c__law_start : PySem.W.codeIn K cd__law_start "_law_start" = true)
    (k__law_start : PySem.W.keepIn K (.ref f__law_start) = true)
    (a__law_draw : PySem.W.nsIn K mainGlobals "_law_draw" = some (some (.ref f__law_draw)))
    (l__law_draw : K.lookup f__law_draw = some ⟨oc__law_draw, od__law_draw, .func (PySem.W.fnOf "_law_draw" "_law_draw" (defArgs t__law_draw) (defBody t__law_draw) (defScope t__law_draw) .none kV__law_draw dc__law_draw pm__law_draw an__law_draw cd__law_draw ct__law_draw), sl__law_draw⟩)
    (c__law_draw : PySem.W.codeIn K cd__law_draw "_law_draw" = true)
    (k__law_draw : PySem.W.keepIn K (.ref f__law_draw) = true)
    (a__law_names : PySem.W.nsIn K mainGlobals "_law_names" = some (some (.ref f__law_names)))
    (l__law_names : K.lookup f__law_names = some ⟨oc__law_names, od__law_names, .func (PySem.W.fnOf "_law_names" "_law_names" (defArgs t__law_names) (defBody t__law_names) (defScope t__law_names) .none kV__law_names dc__law_names pm__law_names an__law_names cd__law_names ct__law_names), sl__law_names⟩)
    (c__law_names : PySem.W.codeIn K cd__law_names "_law_names" = true)
    (k__law_names : PySem.W.keepIn K (.ref f__law_names) = true)
    (a__law_told : PySem.W.nsIn K mainGlobals "_law_told" = some (some (.ref f__law_told)))
    (l__law_told : K.lookup f__law_told = some ⟨oc__law_told, od__law_told, .func (PySem.W.fnOf "_law_told" "_law_told" (defArgs t__law_told) (defBody t__law_told) (defScope t__law_told) .none kV__law_told dc__law_told pm__law_told an__law_told cd__law_told ct__law_told), sl__law_told⟩)
    (c__law_told : PySem.W.codeIn K cd__law_told "_law_told" = true)
    (k__law_told : PySem.W.keepIn K (.ref f__law_told) = true)
    (a__law_refusals_hold : PySem.W.nsIn K mainGlobals "_law_refusals_hold" = some (some (.ref f__law_refusals_hold)))
    (l__law_refusals_hold : K.lookup f__law_refusals_hold = some ⟨oc__law_refusals_hold, od__law_refusals_hold, .func (PySem.W.fnOf "_law_refusals_hold" "_law_refusals_hold" (defArgs t__law_refusals_hold) (defBody t__law_refusals_hold) (defScope t__law_refusals_hold) .none kV__law_refusals_hold dc__law_refusals_hold pm__law_refusals_hold an__law_refusals_hold cd__law_refusals_hold ct__law_refusals_hold), sl__law_refusals_hold⟩)
    (c__law_refusals_hold : PySem.W.codeIn K cd__law_refusals_hold "_law_refusals_hold" = true)
    (k__law_refusals_hold : PySem.W.keepIn K (.ref f__law_refusals_hold) = true)
    (a_law : PySem.W.nsIn K mainGlobals "law" = some (some (.ref f_law)))
    (l_law : K.lookup f_law = some ⟨oc_law, od_law, .func (PySem.W.fnOf "law" "law" (defArgs t_law) (defBody t_law) (defScope t_law) .none kV_law dc_law pm_law an_law cd_law ct_law), sl_law⟩)
    (c_law : PySem.W.codeIn K cd_law "law" = true)
    (k_law : PySem.W.keepIn K (.ref f_law) = true) :
    ∃ fd : FuncData, (∀ (s : Shared) (v : Value), BindsTo s fd ⟨[v], []⟩ [("_law_script", v)]) ∧ ∀ base : Heap, K.In base → base.Ns mainGlobals mg → FnOk P w K mg base (L2.CX P w) 10 fa fd ["_law_script"] (spLaw K) := by
  have e0 := hfa.symm.trans (PySem.W.mg_of X Gn a_law)
  cases e0
  have ox_BadName : OexC K C_BadName := ⟨⟨_, _, _, _, _, _, _, _, _, _, _, _, _, _, _, xL_BadName, rb_BadName⟩, sa_BadName, eC_BadName, tC_BadName, kC_BadName⟩
  have st_BadName : SupTxt K mg C_BadName fI_BadName cc_BadName cda_BadName "BadName.__init__" := ⟨ox_BadName, iC_BadName, tI_BadName, ⟨_, _, _, _, _, lC_BadName, vC_BadName⟩, cQ_BadName, ⟨_, _, _, ce_BadName⟩, sup_of xL_BadName xL_CalendarError fi_CalendarError, sv_BadName, mr_BadName, z_tp, PySem.W.mg_none_of X Gn z_super⟩
  have ox_BadNumber : OexC K C_BadNumber := ⟨⟨_, _, _, _, _, _, _, _, _, _, _, _, _, _, _, xL_BadNumber, rb_BadNumber⟩, sa_BadNumber, eC_BadNumber, tC_BadNumber, kC_BadNumber⟩
  have st_BadNumber : SupTxt K mg C_BadNumber fI_BadNumber cc_BadNumber cda_BadNumber "BadNumber.__init__" := ⟨ox_BadNumber, iC_BadNumber, tI_BadNumber, ⟨_, _, _, _, _, lC_BadNumber, vC_BadNumber⟩, cQ_BadNumber, ⟨_, _, _, ce_BadNumber⟩, sup_of xL_BadNumber xL_CalendarError fi_CalendarError, sv_BadNumber, mr_BadNumber, z_tp, PySem.W.mg_none_of X Gn z_super⟩
  have ek_BadName : ExcK K C_BadName := ⟨cls_of cl_BadName, ga_BadName, gg_BadName, eC_BadName, hd_BadName, ha_BadName, x_hn, x_ht, hm_BadName⟩
  have ek_BadNumber : ExcK K C_BadNumber := ⟨cls_of cl_BadNumber, ga_BadNumber, gg_BadNumber, eC_BadNumber, hd_BadNumber, ha_BadNumber, x_hn, x_ht, hm_BadNumber⟩
  have clI_Meeting : Cls K C_Meeting := ⟨pg_Meeting, hdI_Meeting, po_Meeting, saI_Meeting⟩
  let G : Gm := ⟨K, fun c => match c with | 0 => C_CalendarError | 1 => C_BadName | 2 => C_BadNumber | _ => C_Meeting⟩
  have fx_b_abs : mg "abs" = none := PySem.W.mg_none_of X Gn z_abs
  have fx_b_all : mg "all" = none := PySem.W.mg_none_of X Gn z_all
  have fx_b_bool : mg "bool" = none := PySem.W.mg_none_of X Gn z_bool
  have fx_b_int : mg "int" = none := PySem.W.mg_none_of X Gn z_int
  have fx_b_isinstance : mg "isinstance" = none := PySem.W.mg_none_of X Gn z_isinstance
  have fx_b_len : mg "len" = none := PySem.W.mg_none_of X Gn z_len
  have fx_b_max : mg "max" = none := PySem.W.mg_none_of X Gn z_max
  have fx_b_min : mg "min" = none := PySem.W.mg_none_of X Gn z_min
  have fx_b_range : mg "range" = none := PySem.W.mg_none_of X Gn z_range
  have fx_b_str : mg "str" = none := PySem.W.mg_none_of X Gn z_str
  have fx_c_LAST_MINUTE : GlI mg "LAST_MINUTE" 2880 := ⟨_, PySem.W.mg_of X Gn k_LAST_MINUTE⟩
  have fx_c_LETTERS : GlS mg "LETTERS" "abcdefghijklmnopqrstuvwxyz" := ⟨_, PySem.W.mg_of X Gn k_LETTERS⟩
  have fx_c_LONGEST_MEETING : GlI mg "LONGEST_MEETING" 600 := ⟨_, PySem.W.mg_of X Gn k_LONGEST_MEETING⟩
  have fx_a_latest : AtX G "latest" at_latest_i at_latest_e := atXI (atI1 (a := 3) ⟨clI_Meeting, nI_Meeting_latest⟩) atx0
  have fx_a_length : AtX G "length" at_length_i at_length_e := atXI (atI1 (a := 3) ⟨clI_Meeting, nI_Meeting_length⟩) atx0
  have fx_a_name : AtX G "name" at_name_i at_name_e := atXI (atI1 (a := 3) ⟨clI_Meeting, nI_Meeting_name⟩) (atx1 (a := 1) ⟨ek_BadName, nf_BadName_name⟩)
  have fx_a_opens : AtX G "opens" at_opens_i at_opens_e := atXI (atI1 (a := 3) ⟨clI_Meeting, nI_Meeting_opens⟩) atx0
  have fx_a_place : AtX G "place" at_place_i at_place_e := atXI (atI1 (a := 3) ⟨clI_Meeting, nI_Meeting_place⟩) atx0
  have fx_a_value : AtX G "value" at_value_i at_value_e := (atx1 (a := 2) ⟨ek_BadNumber, nf_BadNumber_value⟩)
  have fx_a_what : AtX G "what" at_what_i at_what_e := (atx1 (a := 2) ⟨ek_BadNumber, nf_BadNumber_what⟩)
  have fx_s_latest : AtC G "latest" at_latest_i := atI1 (a := 3) ⟨clI_Meeting, nI_Meeting_latest⟩
  have fx_s_length : AtC G "length" at_length_i := atI1 (a := 3) ⟨clI_Meeting, nI_Meeting_length⟩
  have fx_s_name : AtC G "name" at_name_i := atI1 (a := 3) ⟨clI_Meeting, nI_Meeting_name⟩
  have fx_s_opens : AtC G "opens" at_opens_i := atI1 (a := 3) ⟨clI_Meeting, nI_Meeting_opens⟩
  have fx_s_place : AtC G "place" at_place_i := atI1 (a := 3) ⟨clI_Meeting, nI_Meeting_place⟩
  have fx_o_Meeting : OwnK G mg "Meeting" tab_Meeting := ⟨C_Meeting, PySem.W.mg_of X Gn aC_Meeting, isi_ins (ClsV.own _) kit_self ⟨clI_Meeting, haI_Meeting, x_hn, x_ht, hmI_Meeting⟩⟩
  have fx_t_CalendarError : TakC G tk_CalendarError (.ref (G.ca 0)) := (tak_cons (a := 1) (exm_of eC_CalendarError cl_CalendarError tC_CalendarError sb_CalendarError_BadName) (tak_cons (a := 2) (exm_of eC_CalendarError cl_CalendarError tC_CalendarError sb_CalendarError_BadNumber) tak_nil))
  have fx_g_CalendarError : mg "CalendarError" = some (.ref (G.ca 0)) := PySem.W.mg_of X Gn aC_CalendarError
  have fx_t_BadName : TakC G tk_BadName (.ref (G.ca 1)) := (tak_cons (a := 1) (exm_of eC_BadName cl_BadName tC_BadName sb_BadName_BadName) (tak_cons (a := 2) (exm_of eC_BadName cl_BadName tC_BadName sb_BadName_BadNumber) tak_nil))
  have fx_g_BadName : mg "BadName" = some (.ref (G.ca 1)) := PySem.W.mg_of X Gn aC_BadName
  have fx_t_BadNumber : TakC G tk_BadNumber (.ref (G.ca 2)) := (tak_cons (a := 1) (exm_of eC_BadNumber cl_BadNumber tC_BadNumber sb_BadNumber_BadName) (tak_cons (a := 2) (exm_of eC_BadNumber cl_BadNumber tC_BadNumber sb_BadNumber_BadNumber) tak_nil))
  have fx_g_BadNumber : mg "BadNumber" = some (.ref (G.ca 2)) := PySem.W.mg_of X Gn aC_BadNumber
  have fx : Fx G mg := ⟨fx_b_abs, fx_b_all, fx_b_bool, fx_b_int, fx_b_isinstance, fx_b_len, fx_b_max, fx_b_min, fx_b_range, fx_b_str, fx_c_LAST_MINUTE, fx_c_LETTERS, fx_c_LONGEST_MEETING, fx_a_latest, fx_a_length, fx_a_name, fx_a_opens, fx_a_place, fx_a_value, fx_a_what, fx_s_latest, fx_s_length, fx_s_name, fx_s_opens, fx_s_place, fx_o_Meeting, fx_t_CalendarError, fx_g_CalendarError, fx_t_BadName, fx_g_BadName, fx_t_BadNumber, fx_g_BadNumber⟩
  have bi_BadName : Binds K (PySem.W.ksFn "__init__" "BadName.__init__" (defArgs i_BadName) (defBody i_BadName) (defScope i_BadName) .none kV_BadName dc_BadName pm_BadName an_BadName (.ref cda_BadName) ct_BadName cc_BadName) ["self", "name"] [] := binds1 fun a b => rfl
  have bi_BadNumber : Binds K (PySem.W.ksFn "__init__" "BadNumber.__init__" (defArgs i_BadNumber) (defBody i_BadNumber) (defScope i_BadNumber) .none kV_BadNumber dc_BadNumber pm_BadNumber an_BadNumber (.ref cda_BadNumber) ct_BadNumber cc_BadNumber) ["self", "what", "value"] [] := binds2 fun a b c => rfl
  have F_is_name := fun_mk (st := t_is_name) l_is_name c_is_name k_is_name
  have b_is_name := F_is_name.binds (ps := ["text"]) fun _ _ _ _ _ _ us hl => match us, hl with | [_], _ => rfl
  have F_check_name := fun_mk (st := t_check_name) l_check_name c_check_name k_check_name
  have b_check_name := F_check_name.binds (ps := ["text"]) fun _ _ _ _ _ _ us hl => match us, hl with | [_], _ => rfl
  have F_is_integer := fun_mk (st := t_is_integer) l_is_integer c_is_integer k_is_integer
  have b_is_integer := F_is_integer.binds (ps := ["value"]) fun _ _ _ _ _ _ us hl => match us, hl with | [_], _ => rfl
  have F_check_integer := fun_mk (st := t_check_integer) l_check_integer c_check_integer k_check_integer
  have b_check_integer := F_check_integer.binds (ps := ["what", "value"]) fun _ _ _ _ _ _ us hl => match us, hl with | [_, _], _ => rfl
  have F_check_number := fun_mk (st := t_check_number) l_check_number c_check_number k_check_number
  have b_check_number := F_check_number.binds (ps := ["what", "value", "low", "high"]) fun _ _ _ _ _ _ us hl => match us, hl with | [_, _, _, _], _ => rfl
  have F_check_times := fun_mk (st := t_check_times) l_check_times c_check_times k_check_times
  have b_check_times := F_check_times.binds (ps := ["opens", "latest", "length"]) fun _ _ _ _ _ _ us hl => match us, hl with | [_, _, _], _ => rfl
  have F_Meeting___init__ := fun_mk (st := t_Meeting___init__) l_Meeting___init__ c_Meeting___init__ k_Meeting___init__
  have b_Meeting___init__ := F_Meeting___init__.binds (ps := ["self", "name", "place", "opens", "latest", "length"]) fun _ _ _ _ _ _ us hl => match us, hl with | [_, _, _, _, _, _], _ => rfl
  have F_Meeting___eq__ := fun_mk (st := t_Meeting___eq__) l_Meeting___eq__ c_Meeting___eq__ k_Meeting___eq__
  have b_Meeting___eq__ := F_Meeting___eq__.binds (ps := ["self", "other"]) fun _ _ _ _ _ _ us hl => match us, hl with | [_, _], _ => rfl
  have F__law_start := fun_mk (st := t__law_start) l__law_start c__law_start k__law_start
  have b__law_start := F__law_start.binds (ps := ["_law_script"]) fun _ _ _ _ _ _ us hl => match us, hl with | [_], _ => rfl
  have F__law_draw := fun_mk (st := t__law_draw) l__law_draw c__law_draw k__law_draw
  have b__law_draw := F__law_draw.binds (ps := ["_law_script", "_law_state", "_law_limit"]) fun _ _ _ _ _ _ us hl => match us, hl with | [_, _, _], _ => rfl
  have F__law_names := fun_mk (st := t__law_names) l__law_names c__law_names k__law_names
  have b__law_names := F__law_names.binds (ps := ["_law_script", "_law_state", "_law_many", "_law_most"]) fun _ _ _ _ _ _ us hl => match us, hl with | [_, _, _, _], _ => rfl
  have F__law_told := fun_mk (st := t__law_told) l__law_told c__law_told k__law_told
  have b__law_told := F__law_told.binds (ps := ["_law_row"]) fun _ _ _ _ _ _ us hl => match us, hl with | [_], _ => rfl
  have F__law_refusals_hold := fun_mk (st := t__law_refusals_hold) l__law_refusals_hold c__law_refusals_hold k__law_refusals_hold
  have b__law_refusals_hold := F__law_refusals_hold.binds (ps := ["_law_script", "_law_state", "_law_row"]) fun _ _ _ _ _ _ us hl => match us, hl with | [_, _, _], _ => rfl
  have F_law := fun_mk (st := t_law) l_law c_law k_law
  refine ⟨PySem.W.fnOf "law" "law" (defArgs t_law) (defBody t_law) (defScope t_law) .none kV_law dc_law pm_law an_law cd_law ct_law, fun s v => .of_eq rfl, fun base _ _ => ?_⟩
  have e_BadName : OwnErr P w G mg base "BadName" 1 1 1 (mk1 ("name" : Str)) := ⟨ox_BadName, PySem.W.mg_of X Gn aC_BadName, _, _, _, iC_BadName, tI_BadName, bi_BadName, init_one (k := 0) (c := 1) (G := G) lI_BadName st_BadName si_BadName hfile htop ⟨_, rfl, rfl⟩ (fun _ => by kernel_rfl) (fun _ => by kernel_rfl) (fun _ => by kernel_rfl) ⟨by decide +kernel, by decide +kernel⟩ nf_BadName_name mk1_ok (fun A outer s H E => msg_const)⟩
  have e_BadNumber : OwnErr P w G mg base "BadNumber" 1 2 2 (mk2s ("what" : Str) ("value" : Str)) := ⟨ox_BadNumber, PySem.W.mg_of X Gn aC_BadNumber, _, _, _, iC_BadNumber, tI_BadNumber, bi_BadNumber, init_two (k := 0) (c := 2) (G := G) lI_BadNumber st_BadNumber si_BadNumber hfile htop ⟨_, rfl, rfl⟩ (fun _ => by kernel_rfl) (fun _ => by kernel_rfl) (fun _ => by kernel_rfl) ⟨by decide +kernel, by decide +kernel⟩ ⟨by decide +kernel, by decide +kernel⟩ nf_BadNumber_what nf_BadNumber_value mk2s_ok (fun A outer s H E => msg_f (i := 0) (by kernel_rfl) (by kernel_rfl) (by kernel_rfl) (by kernel_rfl) (by decide +kernel))⟩
  have c_is_name : Callee P w G mg base "is_name" 1 ["text"] m_is_name := ⟨_, _, PySem.W.mg_of X Gn a_is_name, k_is_name, b_is_name, ok_is_name fx F_is_name⟩
  have c_check_name : Callee P w G mg base "check_name" 3 ["text"] m_check_name := ⟨_, _, PySem.W.mg_of X Gn a_check_name, k_check_name, b_check_name, ok_check_name fx c_is_name e_BadName F_check_name⟩
  have c_is_integer : Callee P w G mg base "is_integer" 1 ["value"] m_is_integer := ⟨_, _, PySem.W.mg_of X Gn a_is_integer, k_is_integer, b_is_integer, ok_is_integer fx F_is_integer⟩
  have c_check_integer : Callee P w G mg base "check_integer" 3 ["what", "value"] m_check_integer := ⟨_, _, PySem.W.mg_of X Gn a_check_integer, k_check_integer, b_check_integer, ok_check_integer fx c_is_integer e_BadNumber F_check_integer⟩
  have c_check_number : Callee P w G mg base "check_number" 4 ["what", "value", "low", "high"] m_check_number := ⟨_, _, PySem.W.mg_of X Gn a_check_number, k_check_number, b_check_number, ok_check_number fx c_check_integer e_BadNumber F_check_number⟩
  have c_check_times : Callee P w G mg base "check_times" 5 ["opens", "latest", "length"] m_check_times := ⟨_, _, PySem.W.mg_of X Gn a_check_times, k_check_times, b_check_times, ok_check_times fx c_check_number F_check_times⟩
  have mk_Meeting : OwnCls P w G mg base "Meeting" 6 3 5 m_Meeting___init__ := ⟨PySem.W.mg_of X Gn aC_Meeting, _, _, _, ⟨mkI_Meeting, a_Meeting___init__, i_Meeting___init__, kcI_Meeting⟩, b_Meeting___init__, rfl, ok_Meeting___init__ fx c_check_name c_check_times F_Meeting___init__⟩
  have oe_Meeting : OwnEq P w G mg base 1 3 nf_Meeting m_Meeting___eq__ := ⟨⟨_, _, _, a_Meeting___eq__, i_Meeting___eq__, b_Meeting___eq__, rfl, ok_Meeting___eq__ fx F_Meeting___eq__⟩, neI_Meeting, obI_Meeting, fun d hd => by rw [of_decide_eq_true hd]; exact nf_self⟩
  have c__law_start : Callee P w G mg base "_law_start" 1 ["_law_script"] m__law_start := ⟨_, _, PySem.W.mg_of X Gn a__law_start, k__law_start, b__law_start, ok__law_start fx F__law_start⟩
  have c__law_draw : Callee P w G mg base "_law_draw" 1 ["_law_script", "_law_state", "_law_limit"] m__law_draw := ⟨_, _, PySem.W.mg_of X Gn a__law_draw, k__law_draw, b__law_draw, ok__law_draw fx F__law_draw⟩
  have c__law_names : Callee P w G mg base "_law_names" 2 ["_law_script", "_law_state", "_law_many", "_law_most"] m__law_names := ⟨_, _, PySem.W.mg_of X Gn a__law_names, k__law_names, b__law_names, ok__law_names fx c__law_draw F__law_names⟩
  have c__law_told : Callee P w G mg base "_law_told" 8 ["_law_row"] m__law_told := ⟨_, _, PySem.W.mg_of X Gn a__law_told, k__law_told, b__law_told, ok__law_told fx mk_Meeting F__law_told⟩
  have c__law_refusals_hold : Callee P w G mg base "_law_refusals_hold" 9 ["_law_script", "_law_state", "_law_row"] m__law_refusals_hold := ⟨_, _, PySem.W.mg_of X Gn a__law_refusals_hold, k__law_refusals_hold, b__law_refusals_hold, ok__law_refusals_hold fx c__law_draw c__law_told F__law_refusals_hold⟩
  exact law_to (G := G) (ok_law fx c__law_start c__law_names c__law_draw c__law_told c__law_refusals_hold mk_Meeting oe_Meeting F_law) (fun ns c _ hc => law_spec ns c hc)
end K14
open PySem PySem.W PyProof.Rows in
set_option maxRecDepth 100000 in
set_option maxHeartbeats 0 in
theorem PySem.Challenge.cw_laterways_k14_meetings_holds : PySem.Challenge.rw_laterways_k14_meetings.Holds := by
  w_on; o_law; k_head; (case hw => w_witness2)
  k_fill
  refine ML.law_walk (l := PySem.Challenge.rw_laterways_k14_meetings) (k := 10) (x := "_law_script") rfl rfl ⟨rfl, by decide, by decide⟩ (fun w h Y => PySem.W.kIn_of Y) ?F
  case F =>
    intro w mg fa h KX G hmg
    refine' K14.all_mk KX G hmg ?hfile ?htop ?z_abs ?z_all ?z_bool ?z_int ?z_isinstance ?z_len ?z_max ?z_min ?z_range ?z_str ?k_LAST_MINUTE ?k_LETTERS ?k_LONGEST_MEETING ?z_super ?z_tp ?x_hn ?x_ht ?aC_CalendarError ?aC_BadName ?aC_BadNumber ?xL_CalendarError ?eC_CalendarError ?tC_CalendarError ?cl_CalendarError ?mr_CalendarError ?sb_CalendarError_BadName ?sb_CalendarError_BadNumber ?xL_BadName ?eC_BadName ?tC_BadName ?cl_BadName ?mr_BadName ?sb_BadName_BadName ?sb_BadName_BadNumber ?xL_BadNumber ?eC_BadNumber ?tC_BadNumber ?cl_BadNumber ?mr_BadNumber ?sb_BadNumber_BadName ?sb_BadNumber_BadNumber ?fi_CalendarError ?rb_BadName ?sa_BadName ?kC_BadName ?ga_BadName ?gg_BadName ?hd_BadName ?ha_BadName ?hm_BadName ?sv_BadName ?nf_BadName_name ?rb_BadNumber ?sa_BadNumber ?kC_BadNumber ?ga_BadNumber ?gg_BadNumber ?hd_BadNumber ?ha_BadNumber ?hm_BadNumber ?sv_BadNumber ?nf_BadNumber_what ?nf_BadNumber_value ?iC_BadName ?tI_BadName ?lI_BadName ?lC_BadName ?vC_BadName ?cQ_BadName ?ce_BadName ?iC_BadNumber ?tI_BadNumber ?lI_BadNumber ?lC_BadNumber ?vC_BadNumber ?cQ_BadNumber ?ce_BadNumber ?aC_Meeting ?pg_Meeting ?hdI_Meeting ?po_Meeting ?saI_Meeting ?mkI_Meeting ?kcI_Meeting ?haI_Meeting ?hmI_Meeting ?nI_Meeting_latest ?nI_Meeting_length ?nI_Meeting_name ?nI_Meeting_opens ?nI_Meeting_place ?neI_Meeting ?obI_Meeting ?a_Meeting___init__ ?i_Meeting___init__ ?l_Meeting___init__ ?c_Meeting___init__ ?k_Meeting___init__ ?a_Meeting___eq__ ?i_Meeting___eq__ ?l_Meeting___eq__ ?c_Meeting___eq__ ?k_Meeting___eq__ ?a_is_name ?l_is_name ?c_is_name ?k_is_name ?a_check_name ?l_check_name ?c_check_name ?k_check_name ?a_is_integer ?l_is_integer ?c_is_integer ?k_is_integer ?a_check_integer ?l_check_integer ?c_check_integer ?k_check_integer ?a_check_number ?l_check_number ?c_check_number ?k_check_number ?a_check_times ?l_check_times ?c_check_times ?k_check_times ?a__law_start ?l__law_start ?c__law_start ?k__law_start ?a__law_draw ?l__law_draw ?c__law_draw ?k__law_draw ?a__law_names ?l__law_names ?c__law_names ?k__law_names ?a__law_told ?l__law_told ?c__law_told ?k__law_told ?a__law_refusals_hold ?l__law_refusals_hold ?c__law_refusals_hold ?k__law_refusals_hold ?a_law ?l_law ?c_law ?k_law
    (case hfile => kernel_rfl)
    (case htop => kernel_rfl)
    (case z_abs => k_is)
    (case z_all => k_is)
    (case z_bool => k_is)
    (case z_int => k_is)
    (case z_isinstance => k_is)
    (case z_len => k_is)
    (case z_max => k_is)
    (case z_min => k_is)
    (case z_range => k_is)
    (case z_str => k_is)
    (case k_LAST_MINUTE => k_is)
    (case k_LETTERS => k_is)
    (case k_LONGEST_MEETING => k_is)
    (case z_super => k_is)
    (case z_tp => k_is)
    (case x_hn => k_is)
    (case x_ht => k_is)
    (case aC_CalendarError => k_is)
    (case aC_BadName => k_is)
    (case aC_BadNumber => k_is)
    (case xL_CalendarError => k_is)
    (case eC_CalendarError => k_is)
    (case tC_CalendarError => k_is)
    (case cl_CalendarError => k_is)
    (case mr_CalendarError => k_is)
    (case sb_CalendarError_BadName => k_is)
    (case sb_CalendarError_BadNumber => k_is)
    (case xL_BadName => k_is)
    (case eC_BadName => k_is)
    (case tC_BadName => k_is)
    (case cl_BadName => k_is)
    (case mr_BadName => k_is)
    (case sb_BadName_BadName => k_is)
    (case sb_BadName_BadNumber => k_is)
    (case xL_BadNumber => k_is)
    (case eC_BadNumber => k_is)
    (case tC_BadNumber => k_is)
    (case cl_BadNumber => k_is)
    (case mr_BadNumber => k_is)
    (case sb_BadNumber_BadName => k_is)
    (case sb_BadNumber_BadNumber => k_is)
    (case fi_CalendarError => k_is)
    (case rb_BadName => decide +kernel)
    (case sa_BadName => k_is)
    (case kC_BadName => k_is)
    (case ga_BadName => k_is)
    (case gg_BadName => k_is)
    (case hd_BadName => k_is)
    (case ha_BadName => k_is)
    (case hm_BadName => k_is)
    (case sv_BadName => k_is)
    (case nf_BadName_name => k_is)
    (case rb_BadNumber => decide +kernel)
    (case sa_BadNumber => k_is)
    (case kC_BadNumber => k_is)
    (case ga_BadNumber => k_is)
    (case gg_BadNumber => k_is)
    (case hd_BadNumber => k_is)
    (case ha_BadNumber => k_is)
    (case hm_BadNumber => k_is)
    (case sv_BadNumber => k_is)
    (case nf_BadNumber_what => k_is)
    (case nf_BadNumber_value => k_is)
    (case iC_BadName => k_is)
    (case tI_BadName => k_is)
    (case lI_BadName => k_is)
    (case lC_BadName => k_is)
    (case vC_BadName => first | rfl | decide +kernel)
    (case cQ_BadName => k_is)
    (case ce_BadName => k_is)
    (case iC_BadNumber => k_is)
    (case tI_BadNumber => k_is)
    (case lI_BadNumber => k_is)
    (case lC_BadNumber => k_is)
    (case vC_BadNumber => first | rfl | decide +kernel)
    (case cQ_BadNumber => k_is)
    (case ce_BadNumber => k_is)
    (case aC_Meeting => k_is)
    (case pg_Meeting => k_is)
    (case hdI_Meeting => k_is)
    (case po_Meeting => k_is)
    (case saI_Meeting => k_is)
    (case mkI_Meeting => k_is)
    (case kcI_Meeting => k_is)
    (case haI_Meeting => k_is)
    (case hmI_Meeting => k_is)
    (case nI_Meeting_latest => k_is)
    (case nI_Meeting_length => k_is)
    (case nI_Meeting_name => k_is)
    (case nI_Meeting_opens => k_is)
    (case nI_Meeting_place => k_is)
    (case neI_Meeting => k_is)
    (case obI_Meeting => k_is)
    (case a_Meeting___init__ => k_is)
    (case i_Meeting___init__ => k_is)
    (case l_Meeting___init__ => k_is)
    (case c_Meeting___init__ => k_is)
    (case k_Meeting___init__ => k_is)
    (case a_Meeting___eq__ => k_is)
    (case i_Meeting___eq__ => k_is)
    (case l_Meeting___eq__ => k_is)
    (case c_Meeting___eq__ => k_is)
    (case k_Meeting___eq__ => k_is)
    (case a_is_name => k_is)
    (case l_is_name => k_is)
    (case c_is_name => k_is)
    (case k_is_name => k_is)
    (case a_check_name => k_is)
    (case l_check_name => k_is)
    (case c_check_name => k_is)
    (case k_check_name => k_is)
    (case a_is_integer => k_is)
    (case l_is_integer => k_is)
    (case c_is_integer => k_is)
    (case k_is_integer => k_is)
    (case a_check_integer => k_is)
    (case l_check_integer => k_is)
    (case c_check_integer => k_is)
    (case k_check_integer => k_is)
    (case a_check_number => k_is)
    (case l_check_number => k_is)
    (case c_check_number => k_is)
    (case k_check_number => k_is)
    (case a_check_times => k_is)
    (case l_check_times => k_is)
    (case c_check_times => k_is)
    (case k_check_times => k_is)
    (case a__law_start => k_is)
    (case l__law_start => k_is)
    (case c__law_start => k_is)
    (case k__law_start => k_is)
    (case a__law_draw => k_is)
    (case l__law_draw => k_is)
    (case c__law_draw => k_is)
    (case k__law_draw => k_is)
    (case a__law_names => k_is)
    (case l__law_names => k_is)
    (case c__law_names => k_is)
    (case k__law_names => k_is)
    (case a__law_told => k_is)
    (case l__law_told => k_is)
    (case c__law_told => k_is)
    (case k__law_told => k_is)
    (case a__law_refusals_hold => k_is)
    (case l__law_refusals_hold => k_is)
    (case c__law_refusals_hold => k_is)
    (case k__law_refusals_hold => k_is)
    (case a_law => k_is)
    (case l_law => k_is)
    (case c_law => k_is)
    (case k_law => k_is)
