import PyProof.Rows.All
import Wide.All
import OpenK.AllK
import Wide.FinOn
import HandS.ForMost
import HandS.ForExc
import HandS.Conv
import HandS.Wide
import HandS.IsInst
import HandS.ExcIs
import HandS.Flow
import HandS.Style
import HandS.Gcd
import HandS.TupLe
import HandS.ExcOwn
import PyProof.InstEq
import HandS.TryOnly
import PyProof.MaxThree
import HandS.Star
import KE.KMathG
import Flt.RightSqrt
import PyProof.AssignAttr
import KE.SortData
import HandS.RaiseMore
import HandS.FStr
import HandS.TryMany
import HandS.Iter
import HandS.Dict
import HandS.Rev
import HandS.Codes
import HandS.StrMore
import HandS.SuiteRaise
import HandS.RaiseFrom
import HandS.Steps
import HandS.WordsExc
import HandS.Zip
import KE.KDictZip
import HandS.TupMul
import HandS.SortKw
import KE.KDictSum
import KE.KDictCopyH
import KE.KDictDisplayH
import HandS.Keys
import PySem.Challenge.RW_coneroom_k20_forms_without_roots
set_option Elab.async false
set_option linter.all false
set_option maxRecDepth 100000
set_option maxHeartbeats 4000000
/-! Cz: data (T) of values, what a frame knows of its names (D), judgements over data for the readings of HandS. -/
namespace Cz
open PySem PySem.Spec PyProof.Rows L2

/-! ### data: without lists -/
inductive T where
  | non | bl (b : Bool) | int (i : Int) | str (x : Str) | tup (ts : List T) | obj (C : Addr) (ns : List Str) (ts : List T)

mutual
inductive Rp (K : PySem.W.Frag) (H : Hp) : V → T → Prop
  | non : Rp K H .non .non
  | bl (b : Bool) : Rp K H (.bl b) (.bl b)
  | int (i : Int) : Rp K H (.int i) (.int i)
  | str (x : Str) : Rp K H (.str x) (.str x)
  | tup {a : Addr} {vs : List V} {ts : List T} : SqT K H a vs → Rps K H vs ts → Rp K H (.ref a) (.tup ts)
  | obj {a C dx : Addr} {fs : List (Str × V)} {ns : List Str} {ts : List T} : H a = some (.ins C dx fs) → fs.map (·.1) = ns → Rps K H (fs.map (·.2)) ts → Rp K H (.ref a) (.obj C ns ts)
inductive Rps (K : PySem.W.Frag) (H : Hp) : List V → List T → Prop
  | nil : Rps K H [] []
  | cons {v : V} {vs : List V} {t : T} {ts : List T} : Rp K H v t → Rps K H vs ts → Rps K H (v :: vs) (t :: ts)
end
/-- what never changes stays: tuples, made instances -/
structure Imm (H H' : Hp) : Prop where
  tup : ∀ a vs, Rd H a (.tup vs) → Rd H' a (.tup vs)
  ins : ∀ a C dx fs, H a = some (.ins C dx fs) → H' a = some (.ins C dx fs)
theorem Imm.sqT {K : PySem.W.Frag} {H H' : Hp} (m : Imm H H') {a : Addr} {vs : List V} (h : SqT K H a vs) : SqT K H' a vs := by
  rcases h with h | h
  · exact .inl (m.tup _ _ h)
  · exact .inr h
theorem Imm.of_same {H H' : Hp} (s : Same H H') : Imm H H' :=
  ⟨fun a vs h => by
    rcases h with h | ⟨o, h⟩
    · exact .inl (s _ _ h)
    · exact .inr ⟨o, s _ _ h⟩, fun a C dx fs h => s _ _ h⟩
/-- a list is changed -/
theorem Imm.of_lst {H : Hp} {a : Addr} {xs ys : List V} (h : H a = some (.lst xs)) : Imm H (upd H a (.lst ys)) :=
  ⟨fun b vs r => by
    rcases r with r | ⟨o, r⟩
    · exact .inl (by rw [upd_ne (ne_of r h (fun z => nomatch z))]; exact r)
    · exact .inr ⟨o, by rw [upd_ne (ne_of r h (fun z => nomatch z))]; exact r⟩,
   fun b C dx fs r => by rw [upd_ne (ne_of r h (fun z => nomatch z))]; exact r⟩
section
variable {K : PySem.W.Frag} {H H' : Hp}
mutual
theorem Rp.mono (m : Imm H H') : ∀ {v : V} {t : T}, Rp K H v t → Rp K H' v t
  | _, _, .non => .non
  | _, _, .bl b => .bl b
  | _, _, .int i => .int i
  | _, _, .str x => .str x
  | _, _, .tup h r => .tup (m.sqT h) (Rps.mono m r)
  | _, _, .obj h e r => .obj (m.ins _ _ _ _ h) e (Rps.mono m r)
theorem Rps.mono (m : Imm H H') : ∀ {vs : List V} {ts : List T}, Rps K H vs ts → Rps K H' vs ts
  | _, _, .nil => .nil
  | _, _, .cons h r => .cons (Rp.mono m h) (Rps.mono m r)
end
theorem Rps.length : ∀ {vs : List V} {ts : List T}, Rps K H vs ts → vs.length = ts.length
  | _, _, .nil => rfl
  | _, _, .cons _ r => by rw [List.length_cons, List.length_cons, Rps.length r]
theorem Rps.get : ∀ {vs : List V} {ts : List T} {i : Nat} {t : T}, Rps K H vs ts → ts[i]? = some t → ∃ v, vs[i]? = some v ∧ Rp K H v t
  | _, _, _, _, .nil, e => by simp at e
  | _, _, 0, _, .cons h _, e => by simp at e; subst e; exact ⟨_, rfl, h⟩
  | _, _, i + 1, t, .cons _ r, e => by
    obtain ⟨v, h1, h2⟩ := Rps.get (i := i) (t := t) r (by simpa using e)
    exact ⟨v, by simpa using h1, h2⟩
theorem Rps.at' : ∀ {vs : List V} {ts : List T} {i : Nat} {v : V}, Rps K H vs ts → vs[i]? = some v → ∃ t, ts[i]? = some t ∧ Rp K H v t
  | _, _, _, _, .nil, e => by simp at e
  | _, _, 0, _, .cons h _, e => by simp at e; subst e; exact ⟨_, rfl, h⟩
  | _, _, i + 1, v, .cons _ r, e => by
    obtain ⟨t, h1, h2⟩ := Rps.at' (i := i) (v := v) r (by simpa using e)
    exact ⟨t, by simpa using h1, h2⟩
theorem Rps.append : ∀ {vs ws : List V} {ts us : List T}, Rps K H vs ts → Rps K H ws us → Rps K H (vs ++ ws) (ts ++ us)
  | _, _, _, _, .nil, s => s
  | _, _, _, _, .cons h r, s => .cons h (Rps.append r s)
theorem Rps.take : ∀ {vs : List V} {ts : List T} (n : Nat), Rps K H vs ts → Rps K H (vs.take n) (ts.take n)
  | _, _, 0, _ => .nil
  | _, _, _ + 1, .nil => .nil
  | _, _, n + 1, .cons h r => .cons h (Rps.take n r)
theorem Rps.drop : ∀ {vs : List V} {ts : List T} (n : Nat), Rps K H vs ts → Rps K H (vs.drop n) (ts.drop n)
  | _, _, 0, r => r
  | _, _, _ + 1, .nil => .nil
  | _, _, n + 1, .cons _ r => Rps.drop n r
theorem Rps.ints : ∀ (ns : List Int), Rps K H (ns.map V.int) (ns.map T.int)
  | [] => .nil
  | n :: ns => .cons (.int n) (Rps.ints ns)
theorem Rps.ints_of : ∀ {vs : List V} {ns : List Int}, Rps K H vs (ns.map T.int) → vs = ns.map V.int
  | _, [], .nil => rfl
  | _, n :: ns, .cons (.int _) r => by rw [List.map_cons, Rps.ints_of r]
theorem Rps.bls_of : ∀ {vs : List V} {ns : List Bool}, Rps K H vs (ns.map T.bl) → vs = ns.map V.bl
  | _, [], .nil => rfl
  | _, n :: ns, .cons (.bl _) r => by rw [List.map_cons, Rps.bls_of r]
end

/-! ### what a frame knows of a name -/
inductive D where
  /-- nothing -/
  | no
  /-- data -/
  | t (x : T)
  /-- a list that is only read -/
  | l (xs : List T)
  /-- a list of the frame's own -/
  | own (xs : List T)
  /-- what stands at a, whatever it is -/
  | rf (a : Addr)
  /-- a list of lists that are only read -/
  | ll (xss : List (List T))

/-- a list at b that is only read -/
def LRd (K : PySem.W.Frag) (H : Hp) (ow : Addr → Prop) (b : Addr) (vs : List V) : Prop := SqL K H b vs ∧ (ow b → ∀ H', SqL K H' b vs)
inductive Lss (K : PySem.W.Frag) (H : Hp) (ow : Addr → Prop) : List V → List (List T) → Prop
  | nil : Lss K H ow [] []
  | cons {b : Addr} {ws : List V} {vs : List V} {xs : List T} {xss : List (List T)} : LRd K H ow b ws → Rps K H ws xs → Lss K H ow vs xss → Lss K H ow (.ref b :: vs) (xs :: xss)
def Sl (K : PySem.W.Frag) (H0 H : Hp) (ow : Addr → Prop) (a : Addr) : Option (Option V) → D → Prop
  | _, .no => True
  | some (some v), .t x => Rp K H v x
  | some (some v), .l xs => ∃ b vs, v = .ref b ∧ SqL K H b vs ∧ (ow b → ∀ H', SqL K H' b vs) ∧ Rps K H vs xs
  | some (some v), .own xs => v = .ref a ∧ H0 a = none ∧ ∃ vs, H a = some (.lst vs) ∧ Rps K H vs xs
  | some (some v), .rf b => v = .ref b
  | some (some v), .ll xss => ∃ b vs, v = .ref b ∧ LRd K H ow b vs ∧ Lss K H ow vs xss
  | _, _ => False
/-- b is a list of the frame's own -/
def IsOwn (Γ : List D) (A : Nat → Addr) (b : Addr) : Prop := ∃ j xs, Γ[j]? = some (.own xs) ∧ A j = b

structure EnvD (K : PySem.W.Frag) (H0 H : Hp) (σ : L2.St) (Γ : List D) (A : Nat → Addr) : Prop where
  same : Same H0 H
  len : σ.length = Γ.length
  sl : ∀ i d, Γ[i]? = some d → Sl K H0 H (IsOwn Γ A) (A i) σ[i]? d
  ne : ∀ i j xs ys, Γ[i]? = some (.own xs) → Γ[j]? = some (.own ys) → i ≠ j → A i ≠ A j

theorem sqL_of_none {K : PySem.W.Frag} {H : Hp} {b : Addr} {vs : List V} (h : SqL K H b vs) (n : H b = none) : ∀ H', SqL K H' b vs := fun H' => by
  rcases h with (h | ⟨o, h⟩) | h
  · rw [n] at h; cases h
  · rw [n] at h; cases h
  · exact .inr h
/-- from one state to a later one: all but own lists stays; own lists are own or new -/
structure Go (Γ : List D) (A : Nat → Addr) (H : Hp) (Γ' : List D) (A' : Nat → Addr) (H' : Hp) : Prop where
  kp : ∀ b o, H b = some o → ¬ IsOwn Γ A b → H' b = some o
  ow : ∀ b, IsOwn Γ' A' b → IsOwn Γ A b ∨ H b = none

section
variable {K : PySem.W.Frag} {H0 H H' : Hp} {σ : L2.St} {Γ : List D} {A : Nat → Addr}
theorem own_of_set {k i : Nat} {d : D} {ys : List T} (hd : ∀ zs, d ≠ .own zs) (h : (Γ.set k d)[i]? = some (.own ys)) : Γ[i]? = some (.own ys) := by
  by_cases e : k = i
  · subst e
    by_cases hk : k < Γ.length
    · rw [List.getElem?_set_self hk] at h
      exact absurd (Option.some.inj h) (hd ys)
    · rw [List.getElem?_eq_none (by rw [List.length_set]; omega)] at h; cases h
  · rw [List.getElem?_set_ne e] at h; exact h
theorem IsOwn.of_set {k : Nat} {d : D} {b : Addr} (hd : ∀ zs, d ≠ .own zs) : IsOwn (Γ.set k d) A b → IsOwn Γ A b := fun ⟨j, xs, h, e⟩ => ⟨j, xs, own_of_set hd h, e⟩
theorem IsOwn.of_chg {k : Nat} {xs ys : List T} {b : Addr} (h : Γ[k]? = some (.own xs)) : IsOwn (Γ.set k (.own ys)) A b → IsOwn Γ A b := fun ⟨j, zs, hj, e⟩ => by
  by_cases ej : k = j
  · subst ej; exact ⟨k, xs, h, e⟩
  · rw [List.getElem?_set_ne ej] at hj; exact ⟨j, zs, hj, e⟩
theorem LRd.mono {ow ow' : Addr → Prop} (kl : ∀ b vs, SqL K H b vs → ¬ ow b → SqL K H' b vs) (ho : ∀ b vs, SqL K H b vs → ow' b → ow b ∨ H b = none) {b : Addr} {vs : List V} (h : LRd K H ow b vs) : LRd K H' ow' b vs := by
  obtain ⟨s, w⟩ := h
  refine ⟨?_, fun z => ?_⟩
  · by_cases z : ow b
    · exact w z H'
    · exact kl b vs s z
  · rcases ho b vs s z with z | z
    · exact w z
    · exact sqL_of_none s z
theorem Lss.mono {ow ow' : Addr → Prop} (m : Imm H H') (kl : ∀ b vs, SqL K H b vs → ¬ ow b → SqL K H' b vs) (ho : ∀ b vs, SqL K H b vs → ow' b → ow b ∨ H b = none) : ∀ {vs : List V} {xss : List (List T)}, Lss K H ow vs xss → Lss K H' ow' vs xss
  | _, _, .nil => .nil
  | _, _, .cons h r t => .cons (h.mono kl ho) (r.mono m) (Lss.mono m kl ho t)
theorem Lss.length {ow : Addr → Prop} : ∀ {vs : List V} {xss : List (List T)}, Lss K H ow vs xss → vs.length = xss.length
  | _, _, .nil => rfl
  | _, _, .cons _ _ r => by rw [List.length_cons, List.length_cons, Lss.length r]
theorem Lss.at' {ow : Addr → Prop} : ∀ {vs : List V} {xss : List (List T)} {i : Nat} {v : V}, Lss K H ow vs xss → vs[i]? = some v → ∃ b ws xs, v = .ref b ∧ xss[i]? = some xs ∧ LRd K H ow b ws ∧ Rps K H ws xs
  | _, _, _, _, .nil, e => by simp at e
  | _, _, 0, _, .cons h r _, e => by
    rw [List.getElem?_cons_zero] at e
    exact ⟨_, _, _, (Option.some.inj e).symm, rfl, h, r⟩
  | _, _, i + 1, v, .cons _ _ t, e => Lss.at' (i := i) (v := v) t (by simpa using e)
/-- a slot's word in a later heap -/
theorem Sl.mono {ow ow' : Addr → Prop} {a : Addr} {o : Option (Option V)} {d : D} (m : Imm H H') (kl : ∀ b vs, SqL K H b vs → ¬ ow b → SqL K H' b vs) (ho : ∀ b vs, SqL K H b vs → ow' b → ow b ∨ H b = none)
    (hl : ∀ xs vs, d = .own xs → H a = some (.lst vs) → H' a = some (.lst vs)) (h : Sl K H0 H ow a o d) : Sl K H0 H' ow' a o d := by
  cases d with
  | no => cases o with
    | none => trivial
    | some o => cases o <;> trivial
  | t x => cases o with
    | none => exact h
    | some o => cases o with
      | none => exact h
      | some v => exact Rp.mono m h
  | l xs => cases o with
    | none => exact h
    | some o => cases o with
      | none => exact h
      | some v =>
        obtain ⟨b, vs, e, s, w, r⟩ := h
        refine ⟨b, vs, e, ?_, fun z => ?_, r.mono m⟩
        · by_cases z : ow b
          · exact w z H'
          · exact kl b vs s z
        · rcases ho b vs s z with z | z
          · exact w z
          · exact sqL_of_none s z
  | own xs => cases o with
    | none => exact h
    | some o => cases o with
      | none => exact h
      | some v => obtain ⟨e, n, vs, s, r⟩ := h; exact ⟨e, n, vs, hl xs vs rfl s, r.mono m⟩
  | rf b => cases o with
    | none => exact h
    | some o => cases o <;> exact h
  | ll xss => cases o with
    | none => exact h
    | some o => cases o with
      | none => exact h
      | some v => obtain ⟨b, vs, e, s, r⟩ := h; exact ⟨b, vs, e, s.mono kl ho, r.mono m kl ho⟩
theorem EnvD.mono (E : EnvD K H0 H σ Γ A) (s : Same H H') : EnvD K H0 H' σ Γ A :=
  ⟨E.same.trans s, E.len, fun i d h => (E.sl i d h).mono (Imm.of_same s) (fun _ _ q _ => s.seq q) (fun _ _ _ z => .inl z) (fun _ _ _ q => s _ _ q), E.ne⟩
theorem EnvD.tv {i : Nat} {x : T} (E : EnvD K H0 H σ Γ A) (h : Γ[i]? = some (.t x)) : ∃ v, σ[i]? = some (some v) ∧ Rp K H v x := by
  have q := E.sl i _ h
  cases e : σ[i]? with
  | none => rw [e] at q; exact q.elim
  | some o => cases o with
    | none => rw [e] at q; exact q.elim
    | some v => rw [e] at q; exact ⟨v, rfl, q⟩
theorem EnvD.ow {i : Nat} {xs : List T} (E : EnvD K H0 H σ Γ A) (h : Γ[i]? = some (.own xs)) : σ[i]? = some (some (.ref (A i))) ∧ H0 (A i) = none ∧ ∃ vs, H (A i) = some (.lst vs) ∧ Rps K H vs xs := by
  have q := E.sl i _ h
  cases e : σ[i]? with
  | none => rw [e] at q; exact q.elim
  | some o => cases o with
    | none => rw [e] at q; exact q.elim
    | some v =>
      rw [e] at q
      obtain ⟨e1, n, vs, s, r⟩ := q
      rw [e1]
      exact ⟨rfl, n, vs, s, r⟩
theorem EnvD.rv {i : Nat} {a : Addr} (E : EnvD K H0 H σ Γ A) (h : Γ[i]? = some (.rf a)) : σ[i]? = some (some (.ref a)) := by
  have q := E.sl i _ h
  cases e : σ[i]? with
  | none => rw [e] at q; exact q.elim
  | some o => cases o with
    | none => rw [e] at q; exact q.elim
    | some v => rw [e] at q; exact congrArg (fun z => some (some z)) q
theorem EnvD.own_lst (E : EnvD K H0 H σ Γ A) {b : Addr} (h : IsOwn Γ A b) : H0 b = none ∧ ∃ vs, H b = some (.lst vs) := by
  obtain ⟨j, xs, h, e⟩ := h
  obtain ⟨_, n, vs, s, _⟩ := E.ow h
  rw [e] at s n
  exact ⟨n, vs, s⟩
/-- a list to be read -/
def IsL : D → List T → Prop
  | .l xs, ys => xs = ys
  | .own xs, ys => xs = ys
  | _, _ => False
theorem EnvD.lv {i : Nat} {d : D} {xs : List T} (E : EnvD K H0 H σ Γ A) (h : Γ[i]? = some d) (hd : IsL d xs) : ∃ b vs, σ[i]? = some (some (.ref b)) ∧ SqL K H b vs ∧ Rps K H vs xs := by
  cases d with
  | no => exact hd.elim
  | t x => exact hd.elim
  | rf b => exact hd.elim
  | ll b => exact hd.elim
  | l ys =>
    have q := E.sl i _ h
    cases hd
    cases e : σ[i]? with
    | none => rw [e] at q; exact q.elim
    | some o => cases o with
      | none => rw [e] at q; exact q.elim
      | some v =>
        rw [e] at q
        obtain ⟨b, vs, e1, s, _, r⟩ := q
        rw [e1]
        exact ⟨b, vs, rfl, s, r⟩
  | own ys =>
    cases hd
    obtain ⟨e, _, vs, s, r⟩ := E.ow h
    exact ⟨_, vs, e, .of s, r⟩
/-- a slot is given another word, that is no own list -/
theorem EnvD.put (E : EnvD K H0 H σ Γ A) {k : Nat} {o : Option V} {d : D} (hd : ∀ zs, d ≠ .own zs) (h : Sl K H0 H (IsOwn (Γ.set k d) A) (A k) (some o) d) : EnvD K H0 H (σ.set k o) (Γ.set k d) A := by
  refine ⟨E.same, by rw [List.length_set, List.length_set, E.len], fun i d' hi => ?_, fun i j xs ys hi hj n => E.ne i j xs ys (own_of_set hd hi) (own_of_set hd hj) n⟩
  by_cases e : k = i
  · subst e
    by_cases hk : k < Γ.length
    · rw [List.getElem?_set_self hk] at hi
      cases hi
      rw [List.getElem?_set_self (by rw [E.len]; exact hk)]
      exact h
    · rw [List.getElem?_eq_none (by rw [List.length_set]; omega)] at hi
      cases hi
  · rw [List.getElem?_set_ne e] at hi
    rw [List.getElem?_set_ne e]
    exact (E.sl i d' hi).mono (Imm.of_same (Same.refl H)) (fun _ _ q _ => q) (fun _ _ _ z => .inl (z.of_set hd)) (fun _ _ _ q => q)
/-- forget a slot -/
theorem EnvD.wipe1 (E : EnvD K H0 H σ Γ A) (k : Nat) : EnvD K H0 H (σ.set k none) (Γ.set k .no) A := E.put (fun _ z => nomatch z) True.intro
def wipeD (Γ : List D) : List Nat → List D
  | [] => Γ
  | k :: ks => (wipeD Γ ks).set k .no
theorem EnvD.wipe (E : EnvD K H0 H σ Γ A) : ∀ ks : List Nat, EnvD K H0 H (wipe σ ks) (wipeD Γ ks) A
  | [] => E
  | k :: ks => (EnvD.wipe E ks).wipe1 k
/-- a slot is given data -/
theorem EnvD.setT (E : EnvD K H0 H σ Γ A) {k : Nat} {v : V} {x : T} (h : Rp K H v x) : EnvD K H0 H (σ.set k (some v)) (Γ.set k (.t x)) A := E.put (fun _ z => nomatch z) h
/-- a slot is given a new list -/
theorem EnvD.setL {H1 : Hp} (E : EnvD K H0 H σ Γ A) (s : Same H H1) {k : Nat} {p : Addr} {vs : List V} {xs : List T} (hp : H p = none) (h1 : H1 p = some (.lst vs)) (r : Rps K H1 vs xs) :
    EnvD K H0 H1 (σ.set k (some (.ref p))) (Γ.set k (.own xs)) (fun i => if i = k then p else A i) := by
  have hn : ∀ i ys, Γ[i]? = some (.own ys) → A i ≠ p := fun i ys h z => by
    obtain ⟨_, _, vs, q, _⟩ := E.ow h
    rw [z, hp] at q
    cases q
  have ow' : ∀ b, IsOwn (Γ.set k (.own xs)) (fun i => if i = k then p else A i) b → IsOwn Γ A b ∨ H b = none := fun b ⟨j, ys, hj, e⟩ => by
    by_cases ej : j = k
    · have e' : (if j = k then p else A j) = b := e
      rw [if_pos ej] at e'
      exact .inr (e' ▸ hp)
    · have e' : (if j = k then p else A j) = b := e
      rw [if_neg ej] at e'
      rw [List.getElem?_set_ne (fun z => ej z.symm)] at hj
      exact .inl ⟨j, ys, hj, e'⟩
  refine ⟨E.same.trans s, by rw [List.length_set, List.length_set, E.len], fun i d hi => ?_, fun i j ys zs hi hj n => ?_⟩
  · by_cases e : k = i
    · subst e
      by_cases hk : k < Γ.length
      · rw [List.getElem?_set_self hk] at hi
        cases hi
        rw [List.getElem?_set_self (by rw [E.len]; exact hk), if_pos rfl]
        exact ⟨rfl, E.same.free hp, vs, h1, r⟩
      · rw [List.getElem?_eq_none (by rw [List.length_set]; omega)] at hi
        cases hi
    · rw [List.getElem?_set_ne e] at hi
      rw [List.getElem?_set_ne e, if_neg (fun z => e z.symm)]
      exact (E.sl i d hi).mono (Imm.of_same s) (fun _ _ q _ => s.seq q) (fun b _ _ z => ow' b z) (fun _ _ _ q => s _ _ q)
  · have f : ∀ {i : Nat} {ys : List T}, i ≠ k → (Γ.set k (.own xs))[i]? = some (.own ys) → Γ[i]? = some (.own ys) := fun {i ys} e h => by
      rw [List.getElem?_set_ne (fun z => e z.symm)] at h
      exact h
    show (if i = k then p else A i) ≠ (if j = k then p else A j)
    by_cases ei : i = k
    · rw [if_pos ei, if_neg (fun z => n (ei.trans z.symm))]
      exact (hn j zs (f (fun z => n (ei.trans z.symm)) hj)).symm
    · rw [if_neg ei]
      by_cases ej : j = k
      · rw [if_pos ej]
        exact hn i ys (f ei hi)
      · rw [if_neg ej]
        exact E.ne i j ys zs (f ei hi) (f ej hj) n
/-- a list of the frame's own is changed -/
theorem EnvD.chg (E : EnvD K H0 H σ Γ A) {k : Nat} {xs ys : List T} {ws : List V} (h : Γ[k]? = some (.own xs)) (r : Rps K H ws ys) : EnvD K H0 (upd H (A k) (.lst ws)) σ (Γ.set k (.own ys)) A := by
  obtain ⟨e1, n1, vs, s1, r1⟩ := E.ow h
  have m : Imm H (upd H (A k) (.lst ws)) := Imm.of_lst s1
  have kl : k < Γ.length := (List.getElem?_eq_some_iff.mp h).1
  refine ⟨fun b o q => ?_, by rw [List.length_set, E.len], fun i d hi => ?_, fun i j us zs hi hj n => ?_⟩
  · rw [upd_ne (ne_of_none q n1)]
    exact E.same b o q
  · by_cases e : k = i
    · subst e
      rw [List.getElem?_set_self kl] at hi
      cases hi
      rw [e1]
      exact ⟨rfl, n1, ws, upd_same, r.mono m⟩
    · rw [List.getElem?_set_ne e] at hi
      refine (E.sl i d hi).mono m (fun b us q z => ?_) (fun b _ _ z => .inl (z.of_chg h)) fun us vs z q => ?_
      · have nb : b ≠ A k := fun z' => z ⟨k, xs, h, z'.symm⟩
        rcases q with (q | ⟨o, q⟩) | q
        · exact .inl (.inl (by rw [upd_ne nb]; exact q))
        · exact .inl (.inr ⟨o, by rw [upd_ne nb]; exact q⟩)
        · exact .inr q
      · subst z
        rw [upd_ne (E.ne i k us xs hi h (fun z => e z.symm))]
        exact q
  · have f : ∀ {i : Nat} {us : List T}, (Γ.set k (.own ys))[i]? = some (.own us) → ∃ us', Γ[i]? = some (.own us') := fun {i us} q => by
      by_cases e : k = i
      · subst e; exact ⟨_, h⟩
      · rw [List.getElem?_set_ne e] at q; exact ⟨_, q⟩
    obtain ⟨u1, q1⟩ := f hi
    obtain ⟨u2, q2⟩ := f hj
    exact E.ne i j u1 u2 q1 q2 n

theorem Go.trans {Γ1 Γ2 : List D} {A1 A2 : Nat → Addr} {H1 H2 : Hp} (a : Go Γ A H Γ1 A1 H1) (b : Go Γ1 A1 H1 Γ2 A2 H2) : Go Γ A H Γ2 A2 H2 := by
  refine ⟨fun c o e n => b.kp c o (a.kp c o e n) fun z => ?_, fun c z => ?_⟩
  · rcases a.ow c z with q | q
    · exact n q
    · rw [e] at q; cases q
  · rcases b.ow c z with q | q
    · exact a.ow c q
    · by_cases n : IsOwn Γ A c
      · exact .inl n
      · cases e : H c with
        | none => exact .inr rfl
        | some o => rw [a.kp c o e n] at q; cases q
theorem Go.of_same (s : Same H H') : Go Γ A H Γ A H' := ⟨fun b o e _ => s b o e, fun b z => .inl z⟩
theorem Go.same_then {Γ2 : List D} {A2 : Nat → Addr} {H1 H2 : Hp} (s : Same H H1) (b : Go Γ A H1 Γ2 A2 H2) : Go Γ A H Γ2 A2 H2 := (Go.of_same s).trans b
theorem Go.put {k : Nat} {d : D} (hd : ∀ zs, d ≠ .own zs) : Go Γ A H (Γ.set k d) A H := ⟨fun b o e _ => e, fun b z => .inl (z.of_set hd)⟩
theorem Go.setT {k : Nat} {x : T} : Go Γ A H (Γ.set k (.t x)) A H := Go.put fun _ z => nomatch z
theorem Go.setL {k : Nat} {p : Addr} {xs : List T} {H1 : Hp} (s : Same H H1) (hp : H p = none) : Go Γ A H (Γ.set k (.own xs)) (fun i => if i = k then p else A i) H1 := by
  refine ⟨fun b o e _ => s b o e, fun b hb => ?_⟩
  obtain ⟨j, ys, h, e⟩ := hb
  have e' : (if j = k then p else A j) = b := e
  by_cases ej : j = k
  · rw [if_pos ej] at e'
    exact .inr (e' ▸ hp)
  · rw [if_neg ej] at e'
    rw [List.getElem?_set_ne (fun z => ej z.symm)] at h
    exact .inl ⟨j, ys, h, e'⟩
theorem Go.chg {k : Nat} {xs ys : List T} {o : HO} (h : Γ[k]? = some (.own xs)) : Go Γ A H (Γ.set k (.own ys)) A (upd H (A k) o) := by
  refine ⟨fun b o e n => ?_, fun b z => .inl (z.of_chg h)⟩
  rw [upd_ne (fun z => n ⟨k, xs, h, z.symm⟩)]
  exact e
theorem Go.imm {Γ' : List D} {A' : Nat → Addr} (g : Go Γ A H Γ' A' H') (E : EnvD K H0 H σ Γ A) : Imm H H' := by
  have f : ∀ b o, H b = some o → (∀ xs, o ≠ .lst xs) → H' b = some o := fun b o e n => g.kp b o e fun z => by
    obtain ⟨_, ws, w⟩ := E.own_lst z
    rw [e] at w
    exact n ws (Option.some.inj w)
  exact ⟨fun a vs h => by
    rcases h with h | ⟨o, h⟩
    · exact .inl (f _ _ h fun _ z => nomatch z)
    · exact .inr ⟨o, f _ _ h fun _ z => nomatch z⟩, fun a C dx fs h => f _ _ h fun _ z => nomatch z⟩
theorem Go.sqT {Γ' : List D} {A' : Nat → Addr} (g : Go Γ A H Γ' A' H') (E : EnvD K H0 H σ Γ A) {b : Addr} {vs : List V} (h : SqT K H b vs) : SqT K H' b vs := (g.imm E).sqT h
theorem Go.sqL {Γ' : List D} {A' : Nat → Addr} (g : Go Γ A H Γ' A' H') {b : Addr} {vs : List V} (h : SqL K H b vs) (n : IsOwn Γ A b → ∀ H', SqL K H' b vs) : SqL K H' b vs := by
  by_cases z : IsOwn Γ A b
  · exact n z H'
  · rcases h with (h | ⟨o, h⟩) | h
    · exact .inl (.inl (g.kp _ _ h z))
    · exact .inl (.inr ⟨o, g.kp _ _ h z⟩)
    · exact .inr h
end
end Cz

namespace Cz
open PySem PySem.Spec PyProof.Rows L2

/-! ### arguments and results -/
def Arg (K : PySem.W.Frag) (H : Hp) : V → D → Prop
  | v, .t x => Rp K H v x
  | v, .l xs => ∃ b vs, v = .ref b ∧ SqL K H b vs ∧ Rps K H vs xs
  | _, _ => False
inductive Args (K : PySem.W.Frag) (H : Hp) : List V → List D → Prop
  | nil : Args K H [] []
  | cons {v : V} {vs : List V} {d : D} {ds : List D} : Arg K H v d → Args K H vs ds → Args K H (v :: vs) (d :: ds)
def Res (K : PySem.W.Frag) (H H' : Hp) : V → D → Prop
  | v, .t x => Rp K H' v x
  | v, .l xs => ∃ p vs, v = .ref p ∧ H p = none ∧ H' p = some (.lst vs) ∧ Rps K H' vs xs
  | v, .ll xss => ∃ x xs a w p vs, xss = [[x], xs] ∧ v = .ref a ∧ SqT K H' a [w, .ref p] ∧ H p = none ∧ H' p = some (.lst vs) ∧ Rps K H' vs xs ∧ Rp K H' w x
  | _, _ => False
theorem Arg.mono {K : PySem.W.Frag} {H H' : Hp} (s : Same H H') {v : V} {d : D} (h : Arg K H v d) : Arg K H' v d := by
  cases d with
  | t x => exact Rp.mono (Imm.of_same s) h
  | l xs => obtain ⟨b, vs, e, q, r⟩ := h; exact ⟨b, vs, e, s.seq q, r.mono (Imm.of_same s)⟩
  | no => exact h
  | own _ => exact h
  | rf _ => exact h
  | ll _ => exact h
theorem Args.mono {K : PySem.W.Frag} {H H' : Hp} (s : Same H H') : ∀ {vs : List V} {ds : List D}, Args K H vs ds → Args K H' vs ds
  | _, _, .nil => .nil
  | _, _, .cons h r => .cons (h.mono s) (Args.mono s r)
theorem Args.length {K : PySem.W.Frag} {H : Hp} : ∀ {vs : List V} {ds : List D}, Args K H vs ds → vs.length = ds.length
  | _, _, .nil => rfl
  | _, _, .cons _ r => by rw [List.length_cons, List.length_cons, Args.length r]
theorem Args.append {K : PySem.W.Frag} {H : Hp} : ∀ {vs ws : List V} {ds es : List D}, Args K H vs ds → Args K H ws es → Args K H (vs ++ ws) (ds ++ es)
  | _, _, _, _, .nil, s => s
  | _, _, _, _, .cons h r, s => .cons h (Args.append r s)

/-! ### judgements -/
section
variable (K : PySem.W.Frag)
/-- an expression gives the data x, and changes nothing -/
def Ev (t : TE) (Γ : List D) (x : T) : Prop := ∀ (H0 : Hp) (A : Nat → Addr) (σ : L2.St) (H : Hp) (Q : VK), EnvD K H0 H σ Γ A → (∀ v H', Same H H' → Rp K H' v x → Q v H') → t σ H Q
/-- .. a list to be read -/
def EvL (t : TE) (Γ : List D) (xs : List T) : Prop := ∀ (H0 : Hp) (A : Nat → Addr) (σ : L2.St) (H : Hp) (Q : VK), EnvD K H0 H σ Γ A → (∀ b vs H', Same H H' → SqL K H' b vs → Rps K H' vs xs → Q (.ref b) H') → t σ H Q
/-- .. a new list -/
def EvF (t : TE) (Γ : List D) (xs : List T) : Prop := ∀ (H0 : Hp) (A : Nat → Addr) (σ : L2.St) (H : Hp) (Q : VK), EnvD K H0 H σ Γ A → (∀ p vs H', H p = none → Same H H' → H' p = some (.lst vs) → Rps K H' vs xs → Q (.ref p) H') → t σ H Q
/-- a test -/
def EvB (t : TT) (Γ : List D) (b : Bool) : Prop := ∀ (H0 : Hp) (A : Nat → Addr) (σ : L2.St) (H : Hp) (Q : Bool → Hp → Prop), EnvD K H0 H σ Γ A → (∀ H', Same H H' → Q b H') → t σ H Q
/-- arguments -/
def EvA (t : TA) (Γ : List D) (ds : List D) : Prop := ∀ (H0 : Hp) (A : Nat → Addr) (σ : L2.St) (H : Hp) (Q : List V → Hp → Prop), EnvD K H0 H σ Γ A → (∀ vs H', Same H H' → Args K H' vs ds → Q vs H') → t σ H Q
/-- an expression that raises the class at C -/
def EvE (W : WX) (t : TE) (Γ : List D) (C : Addr) : Prop := ∀ (H0 : Hp) (A : Nat → Addr) (σ : L2.St) (H : Hp) (Q : VK), EnvD K H0 H σ Γ A → (∀ H', Same H H' → W (.ref C) none σ H') → t σ H Q
/-- a target is given data -/
def Gd (g : TG) (Γ : List D) (x : T) (Γ' : List D) : Prop := ∀ (H0 : Hp) (A : Nat → Addr) (σ : L2.St) (H : Hp) (v : V) (Q : L2.St → Hp → Prop), EnvD K H0 H σ Γ A → Rp K H v x → (∀ σ', EnvD K H0 H σ' Γ' A → Go Γ A H Γ' A H → Q σ' H) → g v σ H Q
def Gds (g : TGs) (Γ : List D) (xs : List T) (Γ' : List D) : Prop := ∀ (H0 : Hp) (A : Nat → Addr) (σ : L2.St) (H : Hp) (vs : List V) (Q : L2.St → Hp → Prop), EnvD K H0 H σ Γ A → Rps K H vs xs → (∀ σ', EnvD K H0 H σ' Γ' A → Go Γ A H Γ' A H → Q σ' H) → g vs σ H Q
/-- what is wanted behind a statement -/
structure Po where
  nx : List D → Prop
  rt : D → Prop
  bk : List D → Prop := fun _ => False
  ct : List D → Prop := fun _ => False
  er : Addr → List D → Prop := fun _ _ => False
structure Meet (W : WX) (H0 : Hp) (Γ : List D) (A : Nat → Addr) (H : Hp) (P : Po) (E : Ends) : Prop where
  nx : ∀ Γ' A' σ H', P.nx Γ' → EnvD K H0 H' σ Γ' A' → Go Γ A H Γ' A' H' → E.nx σ H'
  rt : ∀ r v H', P.rt r → Res K H0 H' v r → Same H0 H' → E.rt v H'
  bk : ∀ Γ' A' σ H', P.bk Γ' → EnvD K H0 H' σ Γ' A' → Go Γ A H Γ' A' H' → E.bk σ H'
  ct : ∀ Γ' A' σ H', P.ct Γ' → EnvD K H0 H' σ Γ' A' → Go Γ A H Γ' A' H' → E.ct σ H'
  er : ∀ C Γ' A' σ H', P.er C Γ' → EnvD K H0 H' σ Γ' A' → Go Γ A H Γ' A' H' → W (.ref C) none σ H'
def Sv (W : WX) (t : TS) (Γ : List D) (P : Po) : Prop := ∀ (H0 : Hp) (A : Nat → Addr) (σ : L2.St) (H : Hp) (E : Ends), EnvD K H0 H σ Γ A → Meet K W H0 Γ A H P E → t E σ H
end

section
variable {K : PySem.W.Frag} {Γ : List D} {W : WX}
/-- from a state a little later: values were made -/
theorem Meet.later {H0 H H1 : Hp} {A : Nat → Addr} {P : Po} {E : Ends} (M : Meet K W H0 Γ A H P E) (s : Same H H1) : Meet K W H0 Γ A H1 P E :=
  ⟨fun G B σ H' p e g => M.nx G B σ H' p e (g.same_then s), M.rt, fun G B σ H' p e g => M.bk G B σ H' p e (g.same_then s), fun G B σ H' p e g => M.ct G B σ H' p e (g.same_then s), fun C G B σ H' p e g => M.er C G B σ H' p e (g.same_then s)⟩
theorem Meet.after {H0 H H1 : Hp} {A A1 : Nat → Addr} {Γ1 : List D} {P : Po} {E : Ends} (M : Meet K W H0 Γ A H P E) (s : Go Γ A H Γ1 A1 H1) : Meet K W H0 Γ1 A1 H1 P E :=
  ⟨fun G B σ H' p e g => M.nx G B σ H' p e (s.trans g), M.rt, fun G B σ H' p e g => M.bk G B σ H' p e (s.trans g), fun G B σ H' p e g => M.ct G B σ H' p e (s.trans g), fun C G B σ H' p e g => M.er C G B σ H' p e (s.trans g)⟩

/-! ### names and constants -/
theorem ev_var {i : Nat} {x : T} (h : Γ[i]? = some (.t x)) : Ev K (tVar i) Γ x := fun H0 A σ H Q E q => by
  obtain ⟨v, e, r⟩ := E.tv h
  exact ⟨v, e, q v H (Same.refl H) r⟩
theorem evl_var {i : Nat} {d : D} {xs : List T} (h : Γ[i]? = some d) (hd : IsL d xs) : EvL K (tVar i) Γ xs := fun H0 A σ H Q E q => by
  obtain ⟨b, vs, e, s, r⟩ := E.lv h hd
  exact ⟨.ref b, e, q b vs H (Same.refl H) s r⟩
theorem ev_int {i : Int} : Ev K (tC (.int i)) Γ (.int i) := fun H0 A σ H Q E q => q _ H (Same.refl H) (.int i)
theorem ev_bl {b : Bool} : Ev K (tC (.bl b)) Γ (.bl b) := fun H0 A σ H Q E q => q _ H (Same.refl H) (.bl b)
theorem ev_non : Ev K (tC .non) Γ .non := fun H0 A σ H Q E q => q _ H (Same.refl H) .non
theorem ev_str {x : Str} : Ev K (tC (.str x)) Γ (.str x) := fun H0 A σ H Q E q => q _ H (Same.refl H) (.str x)
theorem ev_eq {t : TE} {x y : T} (h : Ev K t Γ x) (e : x = y) : Ev K t Γ y := e ▸ h
theorem evf_eq {t : TE} {x y : List T} (h : EvF K t Γ x) (e : x = y) : EvF K t Γ y := e ▸ h
theorem evl_eq {t : TE} {x y : List T} (h : EvL K t Γ x) (e : x = y) : EvL K t Γ y := e ▸ h
theorem evb_eq {t : TT} {x y : Bool} (h : EvB K t Γ x) (e : x = y) : EvB K t Γ y := e ▸ h
/-- a list to be read, by its slot -/
def listAt (Γ : List D) (i : Nat) : Option (List T) := match Γ[i]? with
  | some (.l xs) => some xs
  | some (.own xs) => some xs
  | _ => none
theorem evl_v {i : Nat} {xs : List T} (h : listAt Γ i = some xs) : EvL K (tVar i) Γ xs := by
  unfold listAt at h
  split at h
  · rename_i ys e
    cases h
    exact evl_var e rfl
  · rename_i ys e
    cases h
    exact evl_var e rfl
  · cases h
theorem evl_f {t : TE} {xs : List T} (h : EvF K t Γ xs) : EvL K t Γ xs := fun H0 A σ H Q E q => h H0 A σ H Q E fun p vs H' _ s e r => q p vs H' s (.of e) r

/-! ### two operands -/
theorem ev_op {r : R2} {ta tb : TE} {x y z : T} (ha : Ev K ta Γ x) (hb : Ev K tb Γ y)
    (h : ∀ v w H (Q : VK), Rp K H v x → Rp K H w y → (∀ u H', Same H H' → Rp K H' u z → Q u H') → r v w H Q) : Ev K (tOp r ta tb) Γ z := fun H0 A σ H Q E q =>
  ha H0 A σ H _ E fun v H1 s1 r1 => hb H0 A σ H1 _ (E.mono s1) fun w H2 s2 r2 => h v w H2 Q (Rp.mono (Imm.of_same s2) r1) r2 fun u H3 s3 r3 => q u H3 (s1.trans (s2.trans s3)) r3
theorem ev_rI0 {g : Int → Int → V} {f : Int → Int → T} {ta tb : TE} {i j : Int} (hg : ∀ H i j, Rp K H (g i j) (f i j)) (ha : Ev K ta Γ (.int i)) (hb : Ev K tb Γ (.int j)) : Ev K (tOp (rI0 g) ta tb) Γ (f i j) :=
  ev_op ha hb fun v w H Q r1 r2 q => by
    cases r1
    cases r2
    exact ⟨i, j, rfl, rfl, q _ H (Same.refl H) (hg H i j)⟩
theorem ev_rI {C : Int → Int → Prop} {g : Int → Int → V} {f : Int → Int → T} {ta tb : TE} {i j : Int} (hg : ∀ H i j, Rp K H (g i j) (f i j)) (hC : C i j) (ha : Ev K ta Γ (.int i)) (hb : Ev K tb Γ (.int j)) : Ev K (tOp (rI C g) ta tb) Γ (f i j) :=
  ev_op ha hb fun v w H Q r1 r2 q => by
    cases r1
    cases r2
    exact ⟨i, j, rfl, rfl, hC, q _ H (Same.refl H) (hg H i j)⟩
variable {ta tb : TE} {i j : Int}
theorem ev_add (ha : Ev K ta Γ (.int i)) (hb : Ev K tb Γ (.int j)) : Ev K (tOp (rI0 fun i j => .int (i + j)) ta tb) Γ (.int (i + j)) := ev_rI0 (f := fun i j => .int (i + j)) (fun _ _ _ => .int _) ha hb
theorem ev_sub (ha : Ev K ta Γ (.int i)) (hb : Ev K tb Γ (.int j)) : Ev K (tOp (rI0 fun i j => .int (i - j)) ta tb) Γ (.int (i - j)) := ev_rI0 (f := fun i j => .int (i - j)) (fun _ _ _ => .int _) ha hb
/-- |x| < 2 ^ n -/
def Sm (n : Nat) (x : Int) : Prop := x.natAbs < 2 ^ n
theorem Sm.mono {n m : Nat} {x : Int} (h : Sm n x) (k : n ≤ m) : Sm m x := Nat.lt_of_lt_of_le h (Nat.pow_le_pow_right (by decide) k)
theorem Sm.add {n m : Nat} {x y : Int} (h : Sm n x) (k : Sm m y) : Sm (max n m + 1) (x + y) := by
  have h1 := h.mono (Nat.le_max_left n m)
  have h2 := k.mono (Nat.le_max_right n m)
  unfold Sm at *
  rw [Nat.pow_succ]
  omega
theorem Sm.neg {n : Nat} {x : Int} (h : Sm n x) : Sm n (-x) := by
  unfold Sm at *
  omega
theorem Sm.sub {n m : Nat} {x y : Int} (h : Sm n x) (k : Sm m y) : Sm (max n m + 1) (x - y) := by
  rw [Int.sub_eq_add_neg]
  exact h.add k.neg
theorem Sm.mul {n m : Nat} {x y : Int} (h : Sm n x) (k : Sm m y) : Sm (n + m) (x * y) := wide_lt h k
theorem Sm.mulok {n m : Nat} {x y : Int} (h : Sm n x) (k : Sm m y) (z : n + m + 2 ≤ 1000000) : CMulW x y :=
  wide_mul (h.mono (Nat.le_succ n)) (k.mono (Nat.le_succ m)) (Nat.succ_pos _) (Nat.succ_pos _) (by omega)
theorem ev_mul (ha : Ev K ta Γ (.int i)) (hb : Ev K tb Γ (.int j)) (hC : CMulW i j) : Ev K (tOp (rI CMulW fun i j => .int (i * j)) ta tb) Γ (.int (i * j)) := ev_rI (f := fun i j => .int (i * j)) (fun _ _ _ => .int _) hC ha hb
theorem ev_fdiv (ha : Ev K ta Γ (.int i)) (hb : Ev K tb Γ (.int j)) (hC : CDiv i j) : Ev K (tOp (rI CDiv fun i j => .int (i / j)) ta tb) Γ (.int (i / j)) := ev_rI (f := fun i j => .int (i / j)) (fun _ _ _ => .int _) hC ha hb
theorem ev_fdivW (ha : Ev K ta Γ (.int i)) (hb : Ev K tb Γ (.int j)) (hC : CDivW i j) : Ev K (tOp (rI CDivW fun i j => .int (i / j)) ta tb) Γ (.int (i / j)) := ev_rI (f := fun i j => .int (i / j)) (fun _ _ _ => .int _) hC ha hb
theorem ev_mod (ha : Ev K ta Γ (.int i)) (hb : Ev K tb Γ (.int j)) (hC : 0 < j) : Ev K (tOp (rI (fun _ j => 0 < j) fun i j => .int (i % j)) ta tb) Γ (.int (i % j)) := ev_rI (C := fun _ j => 0 < j) (f := fun i j => .int (i % j)) (fun _ _ _ => .int _) hC ha hb
theorem ev_pow (ha : Ev K ta Γ (.int i)) (hb : Ev K tb Γ (.int j)) (hC : CPow i j) : Ev K (tOp (rI CPow fun i j => .int (i ^ j.toNat)) ta tb) Γ (.int (i ^ j.toNat)) := ev_rI (f := fun i j => .int (i ^ j.toNat)) (fun _ _ _ => .int _) hC ha hb
theorem ev_neg (ha : Ev K ta Γ (.int i)) : Ev K (tUn (rU fun i => .int (-i)) ta) Γ (.int (-i)) := fun H0 A σ H Q E q =>
  ha H0 A σ H _ E fun v H1 s1 r1 => by
    cases r1
    exact ⟨i, rfl, q _ H1 s1 (.int _)⟩
theorem ev_lt (ha : Ev K ta Γ (.int i)) (hb : Ev K tb Γ (.int j)) : Ev K (tOp (rI0 fun i j => .bl (decide (i < j))) ta tb) Γ (.bl (decide (i < j))) := ev_rI0 (f := fun i j => .bl (decide (i < j))) (fun _ _ _ => .bl _) ha hb
theorem ev_le (ha : Ev K ta Γ (.int i)) (hb : Ev K tb Γ (.int j)) : Ev K (tOp (rI0 fun i j => .bl (decide (i ≤ j))) ta tb) Γ (.bl (decide (i ≤ j))) := ev_rI0 (f := fun i j => .bl (decide (i ≤ j))) (fun _ _ _ => .bl _) ha hb
theorem ev_gt (ha : Ev K ta Γ (.int i)) (hb : Ev K tb Γ (.int j)) : Ev K (tOp (rI0 fun i j => .bl (decide (j < i))) ta tb) Γ (.bl (decide (j < i))) := ev_rI0 (f := fun i j => .bl (decide (j < i))) (fun _ _ _ => .bl _) ha hb
theorem ev_ge (ha : Ev K ta Γ (.int i)) (hb : Ev K tb Γ (.int j)) : Ev K (tOp (rI0 fun i j => .bl (decide (j ≤ i))) ta tb) Γ (.bl (decide (j ≤ i))) := ev_rI0 (f := fun i j => .bl (decide (j ≤ i))) (fun _ _ _ => .bl _) ha hb
theorem dec_vint (i j : Int) : decide (V.int i = V.int j) = decide (i = j) := by rw [dec_int, Bool.beq_eq_decide_eq]
theorem ev_eqI (ha : Ev K ta Γ (.int i)) (hb : Ev K tb Γ (.int j)) : Ev K (tOp rEq ta tb) Γ (.bl (decide (i = j))) :=
  ev_op ha hb fun v w H Q r1 r2 q => by
    cases r1
    cases r2
    refine ⟨rfl, ?_⟩
    rw [dec_vint]
    exact q _ H (Same.refl H) (.bl _)
theorem ev_neI (ha : Ev K ta Γ (.int i)) (hb : Ev K tb Γ (.int j)) : Ev K (tOp rNe ta tb) Γ (.bl (!decide (i = j))) :=
  ev_op ha hb fun v w H Q r1 r2 q => by
    cases r1
    cases r2
    refine ⟨rfl, ?_⟩
    rw [dec_vint]
    exact q _ H (Same.refl H) (.bl _)
/-- is None of data -/
def isNon : T → Bool
  | .non => true
  | _ => false
theorem Rp.isNon {H : Hp} {v : V} {x : T} (r : Rp K H v x) : decide (v = .non) = Cz.isNon x := by
  cases r <;> first | exact decide_eq_true rfl | exact decide_eq_false (fun z => nomatch z)
theorem ev_notN {x : T} (ha : Ev K ta Γ x) : Ev K (tOp (fun x y H Q => y = .non ∧ Q (.bl (!decide (x = .non))) H) ta (tC .non)) Γ (.bl (!isNon x)) :=
  ev_op ha ev_non fun v w H Q r1 r2 q => by
    cases r2
    refine ⟨rfl, ?_⟩
    rw [r1.isNon]
    exact q _ H (Same.refl H) (.bl _)

/-! ### == of data -/
mutual
def T.py : T → PyData
  | .non => .none
  | .bl b => .bool b
  | .int i => .int i
  | .str x => .str x
  | .tup ts => .tuple (T.pys ts)
  | .obj _ _ _ => .none
def T.pys : List T → List PyData
  | [] => []
  | t :: ts => T.py t :: T.pys ts
end
mutual
/-- no instance within -/
def T.pl : T → Bool
  | .obj _ _ _ => false
  | .tup ts => T.pls ts
  | _ => true
def T.pls : List T → Bool
  | [] => true
  | t :: ts => T.pl t && T.pls ts
end
mutual
theorem Rp.dp {H : Hp} : ∀ {v : V} {x : T}, Rp K H v x → T.pl x = true → Dp K H v (T.py x)
  | _, _, .non, _ => .non
  | _, _, .bl b, _ => .bl b
  | _, _, .int i, _ => .int i
  | _, _, .str x, _ => .str x
  | _, _, .tup h r, p => .tup h (Rps.dps r p)
theorem Rps.dps {H : Hp} : ∀ {vs : List V} {xs : List T}, Rps K H vs xs → T.pls xs = true → DpAll K H vs (T.pys xs)
  | _, _, .nil, _ => .nil
  | _, _, .cons h r, p => .cons (Rp.dp h (Bool.and_eq_true_iff.mp p).1) (Rps.dps r (Bool.and_eq_true_iff.mp p).2)
end
/-- plain data that == may be asked of -/
structure Pl (x : T) : Prop where
  pl : T.pl x = true
  sh : SeqAt.shaped (T.py x) = true
theorem ev_eqD {x y : T} (px : Pl x) (py : Pl y) (ha : Ev K ta Γ x) (hb : Ev K tb Γ y) : Ev K (tOp (rEqD K) ta tb) Γ (.bl (PyData.eqv (T.py x) (T.py y))) :=
  ev_op ha hb fun v w H Q r1 r2 q => ⟨_, _, r1.dp px.pl, r2.dp py.pl, px.sh, py.sh, q _ H (Same.refl H) (.bl _)⟩
theorem ev_neD {x y : T} (px : Pl x) (py : Pl y) (ha : Ev K ta Γ x) (hb : Ev K tb Γ y) : Ev K (tOp (rNeD K) ta tb) Γ (.bl (!PyData.eqv (T.py x) (T.py y))) :=
  ev_op ha hb fun v w H Q r1 r2 q => ⟨_, _, r1.dp px.pl, r2.dp py.pl, px.sh, py.sh, q _ H (Same.refl H) (.bl _)⟩

/-! ### tests -/
theorem evb_test {t : TE} {b : Bool} (h : Ev K t Γ (.bl b)) : EvB K (tTest t) Γ b := fun H0 A σ H Q E q => h H0 A σ H _ E fun v H1 s r => by
  cases r
  exact ⟨b, rfl, q H1 s⟩
theorem evb_val {t : TE} {b : Bool} (h : Ev K t Γ (.bl b)) : EvB K (tB t) Γ b := fun H0 A σ H Q E q => h H0 A σ H _ E fun v H1 s r => by
  cases r
  exact ⟨b, rfl, q H1 s⟩
theorem evb_and {t u : TT} {a b : Bool} (h : EvB K t Γ a) (k : a = true → EvB K u Γ b) (f : a = false → b = false) : EvB K (tAnd t u) Γ b := fun H0 A σ H Q E q => h H0 A σ H _ E fun H1 s => by
  cases a with
  | true => exact iteT (k rfl H0 A σ H1 Q (E.mono s) fun H2 s2 => q H2 (s.trans s2))
  | false => rw [f rfl] at q; exact iteF (q H1 s)
theorem evb_or {t u : TT} {a b : Bool} (h : EvB K t Γ a) (k : a = false → EvB K u Γ b) (f : a = true → b = true) : EvB K (tOr t u) Γ b := fun H0 A σ H Q E q => h H0 A σ H _ E fun H1 s => by
  cases a with
  | false => exact iteF (k rfl H0 A σ H1 Q (E.mono s) fun H2 s2 => q H2 (s.trans s2))
  | true => rw [f rfl] at q; exact iteT (q H1 s)
/-- both sides are asked: the plain forms -/
theorem evb_and2 {t u : TT} {a b : Bool} (h : EvB K t Γ a) (k : EvB K u Γ b) : EvB K (tAnd t u) Γ (a && b) := by
  cases a with
  | true => exact evb_and h (fun _ => k) (fun z => nomatch z)
  | false => exact evb_and h (fun z => nomatch z) (fun _ => rfl)
theorem evb_or2 {t u : TT} {a b : Bool} (h : EvB K t Γ a) (k : EvB K u Γ b) : EvB K (tOr t u) Γ (a || b) := by
  cases a with
  | false => exact evb_or h (fun _ => k) (fun z => nomatch z)
  | true => exact evb_or h (fun z => nomatch z) (fun _ => rfl)
theorem evb_not {t : TT} {a : Bool} (h : EvB K t Γ a) : EvB K (tNot t) Γ (!a) := fun H0 A σ H Q E q => h H0 A σ H _ E fun H1 s => q H1 s
theorem ev_andV {a b : Bool} (h : Ev K ta Γ (.bl a)) (k : a = true → Ev K tb Γ (.bl b)) (f : a = false → b = false) : Ev K (tAndV ta tb) Γ (.bl b) := fun H0 A σ H Q E q => h H0 A σ H _ E fun v H1 s r => by
  cases r
  cases a with
  | true => exact ⟨true, rfl, iteT (k rfl H0 A σ H1 Q (E.mono s) fun v H2 s2 r2 => q v H2 (s.trans s2) r2)⟩
  | false => rw [f rfl] at q; exact ⟨false, rfl, iteF (q _ H1 s (.bl _))⟩
theorem ev_and2 {a b : Bool} (h : Ev K ta Γ (.bl a)) (k : Ev K tb Γ (.bl b)) : Ev K (tAndV ta tb) Γ (.bl (a && b)) := by
  cases a with
  | true => exact ev_andV h (fun _ => k) (fun z => nomatch z)
  | false => exact ev_andV h (fun z => nomatch z) (fun _ => rfl)
theorem ev_notV {a : Bool} (h : Ev K ta Γ (.bl a)) : Ev K (tNotV ta) Γ (.bl (!a)) := fun H0 A σ H Q E q => h H0 A σ H _ E fun v H1 s r => by
  cases r
  exact ⟨a, rfl, q _ H1 s (.bl _)⟩
theorem ev_if {t : TT} {c : Bool} {x : T} (h : EvB K t Γ c) (k1 : c = true → Ev K ta Γ x) (k2 : c = false → Ev K tb Γ x) : Ev K (tIf t ta tb) Γ x := fun H0 A σ H Q E q => h H0 A σ H _ E fun H1 s => by
  cases c with
  | true => exact iteT (k1 rfl H0 A σ H1 Q (E.mono s) fun v H2 s2 r2 => q v H2 (s.trans s2) r2)
  | false => exact iteF (k2 rfl H0 A σ H1 Q (E.mono s) fun v H2 s2 r2 => q v H2 (s.trans s2) r2)
/-- a <= b <= c of ints -/
theorem ev_chain {g g' : Int → Int → V} {f f' : Int → Int → Bool} {tc : TE} {k : Int} (hg : ∀ i j, g i j = .bl (f i j)) (hg' : ∀ i j, g' i j = .bl (f' i j)) (ha : Ev K ta Γ (.int i)) (hb : Ev K tb Γ (.int j)) (hc : Ev K tc Γ (.int k)) :
    Ev K (tChain (rI0 g) (rI0 g') ta tb tc) Γ (.bl (f i j && f' j k)) := fun H0 A σ H Q E q =>
  ha H0 A σ H _ E fun v H1 s1 r1 => hb H0 A σ H1 _ (E.mono s1) fun w H2 s2 r2 => by
    cases r1
    cases r2
    refine ⟨i, j, rfl, rfl, f i j, hg i j, ?_⟩
    cases e : f i j with
    | true =>
      rw [e] at q
      refine iteT (hc H0 A σ H2 _ (E.mono (s1.trans s2)) fun u H3 s3 r3 => ?_)
      cases r3
      refine ⟨j, k, rfl, rfl, ?_⟩
      rw [hg']
      exact q _ H3 (s1.trans (s2.trans s3)) (.bl _)
    | false =>
      refine iteF ?_
      rw [e] at q
      exact q _ H2 (s1.trans s2) (.bl _)

/-! ### tuples, lists, their items -/
theorem eva_nil : EvA K tNil Γ [] := fun H0 A σ H Q E q => q [] H (Same.refl H) .nil
theorem eva_t {tr : TA} {x : T} {ds : List D} (ha : Ev K ta Γ x) (hr : EvA K tr Γ ds) : EvA K (tCons ta tr) Γ (.t x :: ds) := fun H0 A σ H Q E q =>
  ha H0 A σ H _ E fun v H1 s1 r1 => hr H0 A σ H1 _ (E.mono s1) fun vs H2 s2 r2 => q (v :: vs) H2 (s1.trans s2) (.cons (Rp.mono (Imm.of_same s2) r1) r2)
theorem eva_l {tr : TA} {xs : List T} {ds : List D} (ha : EvL K ta Γ xs) (hr : EvA K tr Γ ds) : EvA K (tCons ta tr) Γ (.l xs :: ds) := fun H0 A σ H Q E q =>
  ha H0 A σ H _ E fun b ws H1 s1 sq r1 => hr H0 A σ H1 _ (E.mono s1) fun vs H2 s2 r2 => q (.ref b :: vs) H2 (s1.trans s2) (.cons ⟨b, ws, rfl, s2.seq sq, r1.mono (Imm.of_same s2)⟩ r2)
theorem Args.rps {H : Hp} : ∀ {vs : List V} {ts : List T}, Args K H vs (ts.map D.t) → Rps K H vs ts
  | _, [], .nil => .nil
  | _, t :: ts, .cons h r => .cons h (Args.rps r)
theorem same_upd {H : Hp} {p : Addr} {o : HO} (h : H p = none) : Same H (upd H p o) := fun b x e => by
  rw [upd_ne (ne_of_none e h)]
  exact e
theorem ev_tup {t : TA} {ds : List D} (ts : List T) (h : EvA K t Γ ds) (e : ds = ts.map D.t) (z : ts.length ≤ 1000) : Ev K (tTup t) Γ (.tup ts) := fun H0 A σ H Q E q => by
  subst e
  refine h H0 A σ H _ E fun vs H1 s1 r1 => ?_
  have r := r1.rps
  refine ⟨by rw [r.length]; exact Nat.le_of_lt (small1000 z), fun p hp => ?_⟩
  exact q _ _ (s1.trans (same_upd hp)) (.tup (.of upd_same) (r.mono (Imm.of_same (same_upd hp))))
theorem evf_lst {t : TA} {ds : List D} (ts : List T) (h : EvA K t Γ ds) (e : ds = ts.map D.t) (z : ts.length ≤ 1000) : EvF K (tLst t) Γ ts := fun H0 A σ H Q E q => by
  subst e
  refine h H0 A σ H _ E fun vs H1 s1 r1 => ?_
  have r := r1.rps
  refine ⟨by rw [r.length]; exact Nat.le_of_lt (small1000 z), fun p hp => ?_⟩
  exact q p vs _ (s1.free hp) (s1.trans (same_upd hp)) upd_same (r.mono (Imm.of_same (same_upd hp)))
theorem Rps.atI {H : Hp} {vs : List V} {ts : List T} {t : T} (r : Rps K H vs ts) (h : atI ts i = some t) : ∃ v, L2.atI vs i = some v ∧ Rp K H v t := by
  unfold L2.atI at *
  rw [r.length]
  cases e : ixN ts.length i with
  | none => rw [e] at h; cases h
  | some j =>
    rw [e] at h
    exact r.get h
theorem ev_ixT {ts : List T} {t : T} (ha : Ev K ta Γ (.tup ts)) (hb : Ev K tb Γ (.int i)) (h : atI ts i = some t) : Ev K (tOp (rIxT K) ta tb) Γ t :=
  ev_op ha hb fun v w H Q r1 r2 q => by
    cases r1 with
    | tup s r =>
      cases r2
      obtain ⟨v, hv, rv⟩ := r.atI h
      exact ⟨_, _, i, v, rfl, rfl, s, hv, q v H (Same.refl H) rv⟩
theorem ev_ixL {ts : List T} {t : T} (ha : EvL K ta Γ ts) (hb : Ev K tb Γ (.int i)) (h : atI ts i = some t) : Ev K (tOp (rIxL K) ta tb) Γ t := fun H0 A σ H Q E q =>
  ha H0 A σ H _ E fun b vs H1 s1 sq r1 => hb H0 A σ H1 _ (E.mono s1) fun w H2 s2 r2 => by
    cases r2
    obtain ⟨v, hv, rv⟩ := (r1.mono (Imm.of_same s2)).atI h
    exact ⟨_, _, i, v, rfl, rfl, s2.seq sq, hv, q v H2 (s1.trans s2) rv⟩
/-! slices of lists -/
def EvO (K : PySem.W.Frag) (t : TO) (Γ : List D) (o : Option Int) : Prop := ∀ (H0 : Hp) (A : Nat → Addr) (σ : L2.St) (H : Hp) (Q : Option Int → Hp → Prop), EnvD K H0 H σ Γ A → (∀ H', Same H H' → Q o H') → t σ H Q
theorem evo_some (h : Ev K ta Γ (.int i)) : EvO K (tPart ta) Γ (some i) := fun H0 A σ H Q E q => h H0 A σ H _ E fun v H1 s r => by
  cases r
  exact ⟨i, rfl, q H1 s⟩
def cutT (xs : List T) (lo hi : Option Int) : List T := (xs.drop (HT.sIx xs.length 0 lo)).take (HT.sIx xs.length xs.length hi - HT.sIx xs.length 0 lo)
theorem evf_slice {tl th : TO} {xs : List T} {lo hi : Option Int} (h : EvL K ta Γ xs) (hl : EvO K tl Γ lo) (hh : EvO K th Γ hi) : EvF K (tSl (rSlL K) ta tl th) Γ (cutT xs lo hi) := fun H0 A σ H Q E q =>
  h H0 A σ H _ E fun b vs H1 s1 sq r1 => hl H0 A σ H1 _ (E.mono s1) fun H2 s2 => hh H0 A σ H2 _ (E.mono (s1.trans s2)) fun H3 s3 =>
    ⟨b, vs, rfl, s3.seq (s2.seq sq), fun p hp => by
      have s := s1.trans (s2.trans s3)
      refine q p _ _ (s.free hp) (s.trans (same_upd hp)) upd_same ?_
      refine Rps.mono (Imm.of_same (same_upd hp)) ?_
      have r := r1.mono (Imm.of_same (s2.trans s3))
      have z : cutV vs lo hi = (vs.drop (HT.sIx xs.length 0 lo)).take (HT.sIx xs.length xs.length hi - HT.sIx xs.length 0 lo) := by unfold cutV; rw [r1.length]
      rw [z]
      unfold cutT
      exact (r.drop _).take _⟩
/-- tuple(..) of a list -/
theorem ev_tupleL {xs : List T} (h : EvL K ta Γ xs) : Ev K (tThen ta (kTup K)) Γ (.tup xs) := fun H0 A σ H Q E q =>
  h H0 A σ H _ E fun b vs H1 s1 sq r1 => .inl ⟨b, vs, rfl, sq, fun p hp => q _ _ (s1.trans (same_upd hp)) (.tup (.of upd_same) (r1.mono (Imm.of_same (same_upd hp))))⟩
/-! ### built-in calls -/
theorem ev_call1 {r : List V → Hp → VK → Prop} {x y : T} (ha : Ev K ta Γ x) (h : ∀ v H (Q : VK), Rp K H v x → (∀ u H', Same H H' → Rp K H' u y → Q u H') → r [v] H Q) : Ev K (tCB r (tCons ta tNil)) Γ y := fun H0 A σ H Q E q =>
  ha H0 A σ H _ E fun v H1 s1 r1 => h v H1 Q r1 fun u H2 s2 r2 => q u H2 (s1.trans s2) r2
theorem ev_int1 (ha : Ev K ta Γ (.int i)) : Ev K (tCB (fun xs H Q => (∃ i, xs = [.int i] ∧ Q (.int i) H) ∨ ∃ k, xs = [.bl k] ∧ Q (.int (if k then 1 else 0)) H) (tCons ta tNil)) Γ (.int i) :=
  ev_call1 ha fun v H Q r q => by
    cases r
    exact .inl ⟨i, rfl, q _ H (Same.refl H) (.int i)⟩
theorem ev_abs (ha : Ev K ta Γ (.int i)) : Ev K (tCB (fun xs H Q => ∃ i, xs = [.int i] ∧ Q (.int (if i < 0 then -i else i)) H) (tCons ta tNil)) Γ (.int (if i < 0 then -i else i)) :=
  ev_call1 ha fun v H Q r q => by
    cases r
    exact ⟨i, rfl, q _ H (Same.refl H) (.int _)⟩
theorem ev_lenL {xs : List T} (ha : EvL K ta Γ xs) : Ev K (tCB (fun xs H Q => ∃ p ys, xs = [.ref p] ∧ (SqL K H p ys ∨ SqT K H p ys) ∧ Q (.int ys.length) H) (tCons ta tNil)) Γ (.int xs.length) := fun H0 A σ H Q E q =>
  ha H0 A σ H _ E fun b vs H1 s1 sq r1 => ⟨b, vs, rfl, .inl sq, by rw [r1.length]; exact q _ H1 s1 (.int _)⟩
theorem ev_lenT {xs : List T} (ha : Ev K ta Γ (.tup xs)) : Ev K (tCB (fun xs H Q => ∃ p ys, xs = [.ref p] ∧ (SqL K H p ys ∨ SqT K H p ys) ∧ Q (.int ys.length) H) (tCons ta tNil)) Γ (.int xs.length) := fun H0 A σ H Q E q =>
  ha H0 A σ H _ E fun v H1 s1 r1 => by
    cases r1 with
    | tup sq r => exact ⟨_, _, rfl, .inr sq, by rw [r.length]; exact q _ H1 s1 (.int _)⟩

/-! ### a def's promise over data -/
def spD (K : PySem.W.Frag) (P : List D → D → Prop) : Sp := fun vs H Q _ => ∃ ds r, P ds r ∧ Args K H vs ds ∧ ∀ v H', Same H H' → Res K H H' v r → Q v H'
theorem ev_call {P : List D → D → Prop} {t : TA} {ds : List D} {x : T} {E : XK} (ha : EvA K t Γ ds) (hp : P ds (.t x)) : Ev K (tCall (spD K P) [] E t) Γ x := fun H0 A σ H Q EE q =>
  ha H0 A σ H _ EE fun vs H1 s1 r1 => ⟨ds, _, hp, by rw [List.append_nil]; exact r1, fun v H2 s2 r2 => q v H2 (s1.trans s2) r2⟩
theorem evf_call {P : List D → D → Prop} {t : TA} {ds : List D} {xs : List T} {E : XK} (ha : EvA K t Γ ds) (hp : P ds (.l xs)) : EvF K (tCall (spD K P) [] E t) Γ xs := fun H0 A σ H Q EE q =>
  ha H0 A σ H _ EE fun vs H1 s1 r1 => ⟨ds, _, hp, by rw [List.append_nil]; exact r1, fun v H2 s2 r2 => by
    obtain ⟨p, ws, rfl, n, e, r⟩ := r2
    exact q p ws H2 (s1.free n) (s1.trans s2) e r⟩
end
end Cz

namespace Cz
open PySem PySem.Spec PyProof.Rows L2
section
variable {K : PySem.W.Frag} {Γ : List D} {W : WX} {P : Po}

/-! ### statements -/
theorem sv_next (h : P.nx Γ) : Sv K W tNext Γ P := fun H0 A σ H E hE M => M.nx Γ A σ H h hE (.of_same (Same.refl H))
/-- one after another; mid: what is known between -/
theorem sv_seq {t u : TS} (mid : List D → Prop) (h : Sv K W t Γ { P with nx := mid }) (k : ∀ G, mid G → Sv K W u G P) : Sv K W (tSeq t u) Γ P := fun H0 A σ H E hE M =>
  h H0 A σ H { E with nx := u E } hE ⟨fun G A σ H z e g => k G z H0 A σ H E e (M.after g), M.rt, M.bk, M.ct, M.er⟩
/-- .. where the state between is the one state G -/
theorem sv_then {t u : TS} (G : List D) (h : Sv K W t Γ { P with nx := fun G' => G' = G }) (k : Sv K W u G P) : Sv K W (tSeq t u) Γ P := sv_seq (fun G' => G' = G) h fun _ e => e ▸ k
theorem sv_ret {te : TE} {x : T} (h : Ev K te Γ x) (hr : P.rt (.t x)) : Sv K W (tRet te) Γ P := fun H0 A σ H E hE M =>
  h H0 A σ H _ hE fun v H1 s r => M.rt _ v H1 hr r (hE.same.trans s)
theorem sv_retF {te : TE} {xs : List T} (h : EvF K te Γ xs) (hr : P.rt (.l xs)) : Sv K W (tRet te) Γ P := fun H0 A σ H E hE M =>
  h H0 A σ H _ hE fun p vs H1 n s e r => M.rt _ _ H1 hr ⟨p, vs, rfl, hE.same.free n, e, r⟩ (hE.same.trans s)
/-- return of an own list -/
theorem sv_retO {i : Nat} {xs : List T} (h : Γ[i]? = some (.own xs)) (hr : P.rt (.l xs)) : Sv K W (tRet (tVar i)) Γ P := fun H0 A σ H E hE M => by
  obtain ⟨e, n, vs, s, r⟩ := hE.ow h
  exact ⟨_, e, M.rt _ _ H hr ⟨_, vs, rfl, n, s, r⟩ hE.same⟩
theorem sv_if {t u : TS} {c : TT} {b : Bool} (h : EvB K c Γ b) (k1 : b = true → Sv K W t Γ P) (k2 : b = false → Sv K W u Γ P) : Sv K W (tIfS c t u) Γ P := fun H0 A σ H E hE M =>
  h H0 A σ H _ hE fun H1 s => by
    cases b with
    | true => exact iteT (k1 rfl H0 A σ H1 E (hE.mono s) (M.later s))
    | false => exact iteF (k2 rfl H0 A σ H1 E (hE.mono s) (M.later s))
/-- what is raised -/
theorem sv_raise {C : Addr} (h : P.er C Γ) : Sv K W (fun _ σ H => W (.ref C) none σ H) Γ P := fun H0 A σ H E hE M => M.er C Γ A σ H h hE (.of_same (Same.refl H))
/-! targets -/
theorem gd_name (i : Nat) (x : T) : Gd K (gName i) Γ x (Γ.set i (.t x)) := fun H0 A σ H v Q E r q => q _ (E.setT r) .setT
theorem gds_nil : Gds K gNil Γ [] Γ := fun H0 A σ H vs Q E r q => by
  cases r
  exact ⟨rfl, q _ E (.of_same (Same.refl H))⟩
theorem gds_cons {g : TG} {u : TGs} {x : T} {xs : List T} {G1 G2 : List D} (h : Gd K g Γ x G1) (k : Gds K u G1 xs G2) : Gds K (gCons g u) Γ (x :: xs) G2 := fun H0 A σ H vs Q E r q => by
  cases r with
  | cons r rr => exact ⟨_, _, rfl, h H0 A σ H _ _ E r fun σ1 E1 g1 => k H0 A σ1 H _ _ E1 rr fun σ2 E2 g2 => q σ2 E2 (g1.trans g2)⟩
theorem gd_tup {u : TGs} {xs : List T} {n : Nat} {G : List D} (e : xs.length = n) (h : Gds K u Γ xs G) : Gd K (gTup K n u) Γ (.tup xs) G := fun H0 A σ H v Q E r q => by
  cases r with
  | tup s r => exact ⟨_, _, rfl, s, by rw [r.length]; exact e, h H0 A σ H _ _ E r q⟩
theorem sv_asg {te : TE} {g : TG} {x : T} {G : List D} (h : Ev K te Γ x) (hg : Gd K g Γ x G) (n : P.nx G) : Sv K W (tAsg te g) Γ P := fun H0 A σ H E hE M =>
  h H0 A σ H _ hE fun v H1 s r => hg H0 A σ H1 v _ (hE.mono s) r fun σ1 E1 g => M.nx G A σ1 H1 n E1 (g.same_then s)
theorem sv_set {te : TE} {i : Nat} {x : T} (h : Ev K te Γ x) (n : P.nx (Γ.set i (.t x))) : Sv K W (tAsg te (gName i)) Γ P := sv_asg h (gd_name i x) n
theorem sv_setF {te : TE} {i : Nat} {xs : List T} (h : EvF K te Γ xs) (n : P.nx (Γ.set i (.own xs))) : Sv K W (tAsg te (gName i)) Γ P := fun H0 A σ H E hE M =>
  h H0 A σ H _ hE fun p vs H1 np s e r => M.nx _ _ _ H1 n (hE.setL s np e r) (.setL s np)
theorem sv_drop {te : TE} {x : T} (h : Ev K te Γ x) (n : P.nx Γ) : Sv K W (tDrop te) Γ P := fun H0 A σ H E hE M =>
  h H0 A σ H _ hE fun v H1 s r => M.nx Γ A σ H1 n (hE.mono s) (.of_same s)
/-- xs.append(e) of an own list -/
theorem sv_append {te : TE} {i : Nat} {xs : List T} {y : T} (hi : Γ[i]? = some (.own xs)) (h : Ev K te Γ y) (z : xs.length < 1000000) (n : P.nx (Γ.set i (.own (xs ++ [y])))) :
    Sv K W (tDrop (tBM K "list" rAppend (tVar i) (tCons te tNil))) Γ P := fun H0 A σ H E hE M => by
  obtain ⟨e, n0, vs, s, r⟩ := hE.ow hi
  refine ⟨.ref (A i), e, .inl ⟨rfl, vs, .of s⟩, ?_⟩
  refine h H0 A σ H _ hE fun v H1 s1 r1 => ?_
  have E1 := hE.mono s1
  obtain ⟨_, _, vs', s', r'⟩ := E1.ow hi
  refine ⟨A i, vs', v, rfl, rfl, s', ?_, ?_⟩
  · rw [r'.length, sizeLine_eq]; omega
  · exact M.nx _ A σ _ n (E1.chg hi (r'.append (.cons r1 .nil))) ((Go.chg hi).same_then s1)
/-! ### loops -/
section
variable {g : TG} {tb : TS}
/-- a turn of a loop, as the rules of the layer ask it -/
theorem Meet.turn {H0 H H1 : Hp} {A A1 : Nat → Addr} {G1 : List D} {E : Ends} {I : List D → Prop} {J : L2.St → Hp → Prop} (M : Meet K W H0 Γ A H P E) (s : Go Γ A H G1 A1 H1)
    (hJ : ∀ G B σ H', I G → EnvD K H0 H' σ G B → Go Γ A H G B H' → J σ H') : Meet K W H0 G1 A1 H1 { P with nx := I, ct := I, bk := P.nx } { E with nx := J, ct := J, bk := E.nx } :=
  ⟨fun G B σ H' p e g => hJ G B σ H' p e (s.trans g), M.rt, fun G B σ H' p e g => M.nx G B σ H' p e (s.trans g), fun G B σ H' p e g => hJ G B σ H' p e (s.trans g), fun C G B σ H' p e g => M.er C G B σ H' p e (s.trans g)⟩
/-- for over a range; I: what holds ahead of the i-th turn -/
theorem sv_range1 {ta : TE} {n : Int} (I : Nat → List D → Prop) (h : Ev K ta Γ (.int n)) (z : -4611686018427387904 ≤ n ∧ n < 4611686018427387904) (h0 : I 0 Γ)
    (hs : ∀ i G, i < n.toNat → I i G → ∃ G', Gd K g G (.int i) G' ∧ Sv K W tb G' { P with nx := I (i + 1), ct := I (i + 1), bk := P.nx }) (hd : ∀ G, I n.toNat G → P.nx G) :
    Sv K W (tFor (iRng1 (tCons ta tNil)) g tb) Γ P := fun H0 A σ H E hE M => by
  refine h H0 A σ H _ hE fun v H1 s r => ?_
  cases r
  have M := M.later s
  refine ⟨n, rfl, by simpa using z.1, by simpa using z.2, for_range (fun i σ H => ∃ G B, I i G ∧ EnvD K H0 H σ G B ∧ Go Γ A H1 G B H) ⟨Γ, A, h0, hE.mono s, .of_same (Same.refl H1)⟩ ?_ ?_⟩
  · rintro i σ H ii ⟨G, B, iG, eG, gG⟩
    obtain ⟨G', hg, hb⟩ := hs i G ii iG
    rw [Int.zero_add]
    refine hg H0 B σ H _ _ eG (.int i) fun σ2 e2 g2 => ?_
    exact hb H0 B σ2 H _ e2 (M.turn (gG.trans g2) fun G B σ H' p e g => ⟨G, B, p, e, g⟩)
  · rintro σ H ⟨G, B, iG, eG, gG⟩
    exact M.nx G B σ H (hd G iG) eG gG
theorem sv_range2 {ta tc : TE} {a n : Int} (I : Nat → List D → Prop) (ha : Ev K ta Γ (.int a)) (h : Ev K tc Γ (.int n)) (z : -4611686018427387904 ≤ a ∧ a < 4611686018427387904 ∧ -4611686018427387904 ≤ n ∧ n < 4611686018427387904) (h0 : I 0 Γ)
    (hs : ∀ i G, i < (n - a).toNat → I i G → ∃ G', Gd K g G (.int (a + i)) G' ∧ Sv K W tb G' { P with nx := I (i + 1), ct := I (i + 1), bk := P.nx }) (hd : ∀ G, I (n - a).toNat G → P.nx G) :
    Sv K W (tFor (iRng2 (tCons ta (tCons tc tNil))) g tb) Γ P := fun H0 A σ H E hE M => by
  refine ha H0 A σ H _ hE fun v H1 s1 r1 => h H0 A σ H1 _ (hE.mono s1) fun w H2 s2 r2 => ?_
  cases r1
  cases r2
  have M := (M.later s1).later s2
  refine ⟨a, n, rfl, by simpa using z, for_range (fun i σ H => ∃ G B, I i G ∧ EnvD K H0 H σ G B ∧ Go Γ A H2 G B H) ⟨Γ, A, h0, (hE.mono s1).mono s2, .of_same (Same.refl H2)⟩ ?_ ?_⟩
  · rintro i σ H ii ⟨G, B, iG, eG, gG⟩
    obtain ⟨G', hg, hb⟩ := hs i G ii iG
    refine hg H0 B σ H _ _ eG (.int _) fun σ2 e2 g2 => ?_
    exact hb H0 B σ2 H _ e2 (M.turn (gG.trans g2) fun G B σ H' p e g => ⟨G, B, p, e, g⟩)
  · rintro σ H ⟨G, B, iG, eG, gG⟩
    exact M.nx G B σ H (hd G iG) eG gG
/-- for over a tuple of data -/
theorem sv_forT {ta : TE} {xs : List T} (I : Nat → List D → Prop) (h : Ev K ta Γ (.tup xs)) (h0 : I 0 Γ)
    (hs : ∀ i x G, xs[i]? = some x → I i G → ∃ G', Gd K g G x G' ∧ Sv K W tb G' { P with nx := I (i + 1), ct := I (i + 1), bk := P.nx }) (hd : ∀ G, I xs.length G → P.nx G) :
    Sv K W (tFor (iTup K ta) g tb) Γ P := fun H0 A σ H E hE M => by
  refine h H0 A σ H _ hE fun v H1 s r => ?_
  cases r with
  | tup sq r =>
    rename_i a vs
    have M := M.later s
    have hE := hE.mono s
    refine ⟨a, rfl, ⟨vs, sq⟩, for_tup (K := K) (a := a) (xs := vs) (fun i σ H => ∃ G B, I i G ∧ EnvD K H0 H σ G B ∧ Go Γ A H1 G B H) ⟨Γ, A, h0, hE, .of_same (Same.refl H1)⟩ (fun i σ H _ ⟨G, B, _, _, g⟩ => g.sqT hE sq) ?_ ?_⟩
    · rintro i y σ H ii ⟨G, B, iG, eG, gG⟩
      obtain ⟨x, hx, rx⟩ := r.at' ii
      obtain ⟨G', hg, hb⟩ := hs i x G hx iG
      refine hg H0 B σ H _ _ eG (Rp.mono (gG.imm hE) rx) fun σ2 e2 g2 => ?_
      exact hb H0 B σ2 H _ e2 (M.turn (gG.trans g2) fun G B σ H' p e g => ⟨G, B, p, e, g⟩)
    · rintro σ H ⟨G, B, iG, eG, gG⟩
      exact M.nx G B σ H (by rw [r.length] at iG; exact hd G iG) eG gG
/-- for over a new list -/
theorem sv_forF {ta : TE} {xs : List T} (I : Nat → List D → Prop) (h : EvF K ta Γ xs) (h0 : I 0 Γ)
    (hs : ∀ i x G, xs[i]? = some x → I i G → ∃ G', Gd K g G x G' ∧ Sv K W tb G' { P with nx := I (i + 1), ct := I (i + 1), bk := P.nx }) (hd : ∀ G, I xs.length G → P.nx G) :
    Sv K W (tFor (iList K ta) g tb) Γ P := fun H0 A σ H E hE M => by
  refine h H0 A σ H _ hE fun a vs H1 n s ea r => ?_
  have M := M.later s
  have hE1 := hE.mono s
  have nown : ¬ IsOwn Γ A a := fun ⟨j, ys, q, z⟩ => by
    obtain ⟨_, _, ws, w, _⟩ := hE.ow q
    rw [z, n] at w
    cases w
  refine ⟨a, rfl, ⟨vs, .of ea⟩, for_list (K := K) (a := a) (xs := vs) (fun i σ H => ∃ G B, I i G ∧ EnvD K H0 H σ G B ∧ Go Γ A H1 G B H) ⟨Γ, A, h0, hE1, .of_same (Same.refl H1)⟩ (fun i σ H _ ⟨G, B, _, _, g⟩ => .of (g.kp a _ ea nown)) ?_ ?_⟩
  · rintro i y σ H ii ⟨G, B, iG, eG, gG⟩
    obtain ⟨x, hx, rx⟩ := r.at' ii
    obtain ⟨G', hg, hb⟩ := hs i x G hx iG
    refine hg H0 B σ H _ _ eG (Rp.mono (gG.imm hE1) rx) fun σ2 e2 g2 => ?_
    exact hb H0 B σ2 H _ e2 (M.turn (gG.trans g2) fun G B σ H' p e g => ⟨G, B, p, e, g⟩)
  · rintro σ H ⟨G, B, iG, eG, gG⟩
    exact M.nx G B σ H (by rw [r.length] at iG; exact hd G iG) eG gG
/-- for over a list that is only read -/
theorem sv_forV {k : Nat} {xs : List T} (I : Nat → List D → Prop) (hk : Γ[k]? = some (.l xs)) (h0 : I 0 Γ)
    (hs : ∀ i x G, xs[i]? = some x → I i G → ∃ G', Gd K g G x G' ∧ Sv K W tb G' { P with nx := I (i + 1), ct := I (i + 1), bk := P.nx }) (hd : ∀ G, I xs.length G → P.nx G) :
    Sv K W (tFor (iList K (tVar k)) g tb) Γ P := fun H0 A σ H E hE M => by
  have q := hE.sl k _ hk
  cases e : σ[k]? with
  | none => rw [e] at q; exact q.elim
  | some o => cases o with
    | none => rw [e] at q; exact q.elim
    | some v =>
      rw [e] at q
      obtain ⟨a, vs, e1, sq, n, r⟩ := q
      subst e1
      refine ⟨_, e, a, rfl, ⟨vs, sq⟩, for_list (K := K) (a := a) (xs := vs) (fun i σ H1 => ∃ G B, I i G ∧ EnvD K H0 H1 σ G B ∧ Go Γ A H G B H1) ⟨Γ, A, h0, hE, .of_same (Same.refl H)⟩ (fun i σ H _ ⟨G, B, _, _, g⟩ => g.sqL sq n) ?_ ?_⟩
      · rintro i y σ1 H1 ii ⟨G, B, iG, eG, gG⟩
        obtain ⟨x, hx, rx⟩ := r.at' ii
        obtain ⟨G', hg, hb⟩ := hs i x G hx iG
        refine hg H0 B σ1 H1 _ _ eG (Rp.mono (gG.imm hE) rx) fun σ2 e2 g2 => ?_
        exact hb H0 B σ2 H1 _ e2 (M.turn (gG.trans g2) fun G B σ H' p e g => ⟨G, B, p, e, g⟩)
      · rintro σ H ⟨G, B, iG, eG, gG⟩
        exact M.nx G B σ H (by rw [r.length] at iG; exact hd G iG) eG gG
end
end
end Cz

namespace Cz
open PySem PySem.Spec PyProof.Rows L2

/-! ### comprehensions -/
theorem wipe_set_none (σ : L2.St) (i : Nat) (o : Option V) : ∀ vs : List Nat, (wipe (σ.set i o) vs).set i none = (wipe σ vs).set i none
  | [] => by show (σ.set i o).set i none = σ.set i none; rw [List.set_set]
  | v :: vs => by
    show ((wipe (σ.set i o) vs).set v none).set i none = ((wipe σ vs).set v none).set i none
    by_cases e : v = i
    · subst e; rw [List.set_set, List.set_set, wipe_set_none σ v o vs]
    · rw [List.set_comm _ _ e, wipe_set_none σ i o vs, List.set_comm _ _ (Ne.symm e)]
theorem wipe_set {σ : L2.St} {i : Nat} {o : Option V} : ∀ {vs : List Nat}, i ∈ vs → wipe (σ.set i o) vs = wipe σ vs
  | v :: vs, h => by
    show (wipe (σ.set i o) vs).set v none = (wipe σ vs).set v none
    by_cases e : i = v
    · subst e; exact wipe_set_none σ i o vs
    · rw [wipe_set (vs := vs) (by simpa [e] using h)]
section
variable (K : PySem.W.Frag)
/-- a comprehension's target: only the slots ks are given -/
def Gv (g : TG) (Γ : List D) (x : T) (Γ' : List D) (ks : List Nat) : Prop := ∀ (H0 : Hp) (A : Nat → Addr) (σ : L2.St) (H : Hp) (v : V) (Q : L2.St → Hp → Prop), EnvD K H0 H σ Γ A → Rp K H v x →
  (∀ σ', EnvD K H0 H σ' Γ' A → wipe σ' ks = wipe σ ks → Q σ' H) → g v σ H Q
def Gvs (g : TGs) (Γ : List D) (xs : List T) (Γ' : List D) (ks : List Nat) : Prop := ∀ (H0 : Hp) (A : Nat → Addr) (σ : L2.St) (H : Hp) (vs : List V) (Q : L2.St → Hp → Prop), EnvD K H0 H σ Γ A → Rps K H vs xs →
  (∀ σ', EnvD K H0 H σ' Γ' A → wipe σ' ks = wipe σ ks → Q σ' H) → g vs σ H Q
end
section
variable {K : PySem.W.Frag} {Γ : List D} {W : WX} {P : Po}
theorem gv_name (i : Nat) (x : T) {ks : List Nat} (h : i ∈ ks) : Gv K (gName i) Γ x (Γ.set i (.t x)) ks := fun H0 A σ H v Q E r q => q _ (E.setT r) (wipe_set h)
theorem gvs_nil {ks : List Nat} : Gvs K gNil Γ [] Γ ks := fun H0 A σ H vs Q E r q => by
  cases r
  exact ⟨rfl, q _ E rfl⟩
theorem gvs_cons {g : TG} {u : TGs} {x : T} {xs : List T} {G1 G2 : List D} {ks : List Nat} (h : Gv K g Γ x G1 ks) (k : Gvs K u G1 xs G2 ks) : Gvs K (gCons g u) Γ (x :: xs) G2 ks := fun H0 A σ H vs Q E r q => by
  cases r with
  | cons r rr => exact ⟨_, _, rfl, h H0 A σ H _ _ E r fun σ1 E1 g1 => k H0 A σ1 H _ _ E1 rr fun σ2 E2 g2 => q σ2 E2 (g2.trans g1)⟩
theorem gv_tup {u : TGs} {xs : List T} {n : Nat} {G : List D} {ks : List Nat} (e : xs.length = n) (h : Gvs K u Γ xs G ks) : Gv K (gTup K n u) Γ (.tup xs) G ks := fun H0 A σ H v Q E r q => by
  cases r with
  | tup s r => exact ⟨_, _, rfl, s, by rw [r.length]; exact e, h H0 A σ H _ _ E r q⟩
theorem evb_yes : EvB K tYes Γ true := fun H0 A σ H Q E q => q H (Same.refl H)
/-- what stands in the new list behind i items -/
theorem take_snoc {α : Type} {l : List α} {i : Nat} {x : α} (h : l[i]? = some x) : l.take (i + 1) = l.take i ++ [x] := by
  rw [List.take_add_one, h]; rfl
section
variable {g : TG} {tt : TT} {te : TE} {ks : List Nat}
/-- one turn -/
def CT (K : PySem.W.Frag) (Γ : List D) (g : TG) (tt : TT) (te : TE) (ks : List Nat) (x : T) (c : Bool) (y : T) : Prop :=
  ∃ G', Gv K g (wipeD Γ ks) x G' ks ∧ EvB K tt G' c ∧ (c = true → Ev K te G' y)
theorem CT.run {x y : T} {c : Bool} (h : CT K Γ g tt te ks x c y) {H0 H1 H : Hp} {A : Nat → Addr} {σ : L2.St} {D : Addr} {v : V} {acc : List V} {ys : List T} {N : Hp → Prop} (E : EnvD K H0 H1 σ Γ A) (hD : H1 D = none)
    (s : Same H1 H) (ha : H D = some (.lst acc)) (r : Rps K H acc ys) (z : ys.length < 1000000) (rv : Rp K H v x)
    (hN : ∀ H', Same H1 H' → (∃ acc', H' D = some (.lst acc') ∧ Rps K H' acc' (if c = true then ys ++ [y] else ys)) → N H') :
    g v (wipe σ ks) H fun σ2 H2 => wipe σ2 ks = wipe σ ks ∧ tt σ2 H2 fun b H3 => if b = true then te σ2 H3 fun y H4 => ∃ acc, H4 D = some (.lst acc) ∧ acc.length < sizeLine ∧ N (upd H4 D (.lst (acc ++ [y]))) else N H3 := by
  obtain ⟨G', hg, hb, he⟩ := h
  have Ew := (E.wipe ks).mono s
  have w2 : ∀ σ : L2.St, wipe (wipe σ ks) ks = wipe σ ks := fun σ => by
    have q : ∀ (l : List Nat) (τ : L2.St), (∀ k ∈ l, ∀ o, τ[k]? = some o → o = none) → wipe τ l = τ := fun l => by
      induction l with
      | nil => intro τ _; rfl
      | cons k l ih =>
        intro τ h
        show (wipe τ l).set k none = τ
        rw [ih τ fun j hj => h j (List.mem_cons_of_mem _ hj)]
        apply List.ext_getElem?
        intro j
        by_cases e : k = j
        · subst e
          by_cases hk : k < τ.length
          · rw [List.getElem?_set_self hk, List.getElem?_eq_getElem hk, h k List.mem_cons_self _ (List.getElem?_eq_getElem hk)]
          · rw [List.getElem?_eq_none (by rw [List.length_set]; omega), List.getElem?_eq_none (by omega)]
        · rw [List.getElem?_set_ne e]
    refine q ks _ fun k hk o ho => ?_
    cases o with
    | none => rfl
    | some v => exact absurd hk (wipe_some ho).2
  refine hg H0 A (wipe σ ks) H v _ Ew rv fun σ2 E2 e2 => ⟨by rw [e2, w2], ?_⟩
  refine hb H0 A σ2 H _ E2 fun H3 s3 => ?_
  cases c with
  | true =>
    refine iteT (he rfl H0 A σ2 H3 _ (E2.mono s3) fun u H4 s4 r4 => ?_)
    have s34 := s3.trans s4
    refine ⟨acc, s34 _ _ ha, by rw [r.length, sizeLine_eq]; omega, ?_⟩
    have m : Imm H4 (upd H4 D (.lst (acc ++ [u]))) := Imm.of_lst (s34 _ _ ha)
    refine hN _ (fun b o q => ?_) ⟨_, upd_same, ?_⟩
    · rw [upd_ne (ne_of_none q hD)]
      exact s34 _ _ (s _ _ q)
    · rw [if_pos rfl]
      exact ((r.mono (Imm.of_same s34)).mono m).append (.cons (Rp.mono m r4) .nil)
  | false =>
    refine iteF (hN H3 (s.trans s3) ⟨acc, s3 _ _ ha, ?_⟩)
    rw [if_neg (by decide)]
    exact r.mono (Imm.of_same s3)
/-- the items kept, one after another -/
def keptN (c : Nat → Bool) (f : Nat → T) (n : Nat) : List T := ((List.range n).filter c).map f
theorem keptN_succ {c : Nat → Bool} {f : Nat → T} {n : Nat} : keptN c f (n + 1) = if c n = true then keptN c f n ++ [f n] else keptN c f n := by
  unfold keptN
  rw [List.range_succ, List.filter_append, List.map_append]
  by_cases e : c n = true
  · rw [if_pos e]; simp [e]
  · rw [if_neg e]; simp [e]
theorem keptN_len {c : Nat → Bool} {f : Nat → T} {n : Nat} : (keptN c f n).length ≤ n := by
  unfold keptN
  rw [List.length_map]
  exact Nat.le_trans (List.length_filter_le c _) (by rw [List.length_range]; exact Nat.le_refl n)
theorem keptN_all {ys : List T} : keptN (fun _ => true) (fun i => ys.getD i .non) ys.length = ys := by
  unfold keptN
  rw [List.filter_eq_self.mpr (fun _ _ => rfl)]
  apply List.ext_getElem?
  intro i
  rw [List.getElem?_map]
  by_cases h : i < ys.length
  · rw [List.getElem?_range h, List.getElem?_eq_getElem h]
    simp [List.getD, List.getElem?_eq_getElem h]
  · rw [List.getElem?_eq_none (by rw [List.length_range]; omega), List.getElem?_eq_none (by omega)]
    rfl
/-- over a list (a new one, or one to be read) -/
theorem evf_compL {tl : TE} {xs : List T} (c : Nat → Bool) (f : Nat → T) (hl : EvL K tl Γ xs) (z : xs.length < 1000000) (h : ∀ (i : Nat) (x : T), xs[i]? = some x → CT K Γ g tt te ks x (c i) (f i)) :
    EvF K (tLc (iList K tl) g tt te ks) Γ (keptN c f xs.length) := fun H0 A σ H Q E q =>
  hl H0 A σ H _ E fun a vs H1 s1 sq r => by
    have E1 := E.mono s1
    refine ⟨a, rfl, ⟨vs, sq⟩, fun D hD => lc_list (K := K) (a := a) (xs := vs) (fun i H => Same H1 H ∧ ∃ acc, H D = some (.lst acc) ∧ Rps K H acc (keptN c f i))
      ⟨same_upd hD, [], upd_same, .nil⟩ (fun i H _ p => p.1.seq sq) ?_ ?_⟩
    · rintro i v H hi ⟨s, acc, ha, ra⟩
      obtain ⟨x, hx, rx⟩ := r.at' hi
      have hil : i < xs.length := (List.getElem?_eq_some_iff.mp hx).1
      have zi : (keptN c f i).length < 1000000 := Nat.lt_of_le_of_lt keptN_len (by omega)
      refine (h i x hx).run E1 hD s ha ra zi (Rp.mono (Imm.of_same s) rx) fun H' s' ⟨acc', h', r'⟩ => ⟨s', acc', h', ?_⟩
      rw [keptN_succ]
      exact r'
    · rintro H ⟨s, acc, ha, ra⟩
      rw [r.length] at ra
      exact q D acc H (s1.free hD) (s1.trans s) ha ra
/-- over a tuple -/
theorem evf_compT {tl : TE} {xs : List T} (c : Nat → Bool) (f : Nat → T) (hl : Ev K tl Γ (.tup xs)) (z : xs.length < 1000000) (h : ∀ (i : Nat) (x : T), xs[i]? = some x → CT K Γ g tt te ks x (c i) (f i)) :
    EvF K (tLc (iTup K tl) g tt te ks) Γ (keptN c f xs.length) := fun H0 A σ H Q E q =>
  hl H0 A σ H _ E fun v H1 s1 rv => by
    cases rv with
    | tup sq r =>
      rename_i a vs
      have E1 := E.mono s1
      refine ⟨a, rfl, ⟨vs, sq⟩, fun D hD => lc_tup (K := K) (a := a) (xs := vs) (fun i H => Same H1 H ∧ ∃ acc, H D = some (.lst acc) ∧ Rps K H acc (keptN c f i))
        ⟨same_upd hD, [], upd_same, .nil⟩ (fun i H _ p => (Imm.of_same p.1).sqT sq) ?_ ?_⟩
      · rintro i v H hi ⟨s, acc, ha, ra⟩
        obtain ⟨x, hx, rx⟩ := r.at' hi
        have hil : i < xs.length := (List.getElem?_eq_some_iff.mp hx).1
        have zi : (keptN c f i).length < 1000000 := Nat.lt_of_le_of_lt keptN_len (by omega)
        refine (h i x hx).run E1 hD s ha ra zi (Rp.mono (Imm.of_same s) rx) fun H' s' ⟨acc', h', r'⟩ => ⟨s', acc', h', ?_⟩
        rw [keptN_succ]
        exact r'
      · rintro H ⟨s, acc, ha, ra⟩
        rw [r.length] at ra
        exact q D acc H (s1.free hD) (s1.trans s) ha ra
theorem comp_rg {lo : Int} {n : Nat} (c : Nat → Bool) (f : Nat → T) (z : n < 1000000) (h : ∀ i : Nat, i < n → CT K Γ g tt te ks (.int (lo + i)) (c i) (f i))
    {H0 H1 : Hp} {A : Nat → Addr} {σ : L2.St} {Q : VK} (E1 : EnvD K H0 H1 σ Γ A) (q : ∀ p vs H', H1 p = none → Same H1 H' → H' p = some (.lst vs) → Rps K H' vs (keptN c f n) → Q (.ref p) H') :
    ∀ D, H1 D = none → ∃ W : Nat → Nat → Hp → Prop, (∃ m, W 0 m (upd H1 D (.lst []))) ∧ ∀ i m H, W i m H →
      ((Itr lo n).stop i H ∧ Q (.ref D) H) ∨ ((Itr lo n).go i H ∧ ∃ Nx : Hp → Prop, (∀ H', Nx H' → ∃ m', m' < m ∧ W (i + 1) m' H') ∧ ∀ x H', (Itr lo n).yld i H x H' → g x (wipe σ ks) H' fun σ2 H2 => wipe σ2 ks = wipe σ ks ∧ tt σ2 H2 fun b H3 =>
        if b = true then te σ2 H3 fun y H4 => ∃ acc, H4 D = some (.lst acc) ∧ acc.length < sizeLine ∧ Nx (upd H4 D (.lst (acc ++ [y]))) else Nx H3) := fun D hD => by
  refine lc_range (lo := lo) (n := n) (fun i H => Same H1 H ∧ ∃ acc, H D = some (.lst acc) ∧ Rps K H acc (keptN c f i))
    ⟨same_upd hD, [], upd_same, .nil⟩ ?_ ?_
  · rintro i H hi ⟨s, acc, ha, ra⟩
    have zi : (keptN c f i).length < 1000000 := Nat.lt_of_le_of_lt keptN_len (by omega)
    refine (h i hi).run E1 hD s ha ra zi (.int _) fun H' s' ⟨acc', h', r'⟩ => ⟨s', acc', h', ?_⟩
    rw [keptN_succ]
    exact r'
  · rintro H ⟨s, acc, ha, ra⟩
    exact q D acc H hD s ha ra
theorem evf_compR1 {ta : TE} {n : Int} (c : Nat → Bool) (f : Nat → T) (hn : Ev K ta Γ (.int n)) (z : -4611686018427387904 ≤ n ∧ n < 1000000) (h : ∀ i : Nat, i < n.toNat → CT K Γ g tt te ks (.int i) (c i) (f i)) :
    EvF K (tLc (iRng1 (tCons ta tNil)) g tt te ks) Γ (keptN c f n.toNat) := fun H0 A σ H Q E q =>
  hn H0 A σ H _ E fun v H1 s1 rv => by
    cases rv
    exact ⟨n, rfl, by simpa using z.1, by omega, comp_rg c f (by omega) (fun i hi => by rw [Int.zero_add]; exact h i hi) (E.mono s1) fun p vs H' np s e r => q p vs H' (s1.free np) (s1.trans s) e r⟩
theorem evf_compR2 {ta tc : TE} {a n : Int} (c : Nat → Bool) (f : Nat → T) (ha : Ev K ta Γ (.int a)) (hn : Ev K tc Γ (.int n)) (z : (n - a).toNat < 1000000 ∧ -4611686018427387904 ≤ a ∧ a < 4611686018427387904 ∧ -4611686018427387904 ≤ n ∧ n < 4611686018427387904)
    (h : ∀ i : Nat, i < (n - a).toNat → CT K Γ g tt te ks (.int (a + i)) (c i) (f i)) :
    EvF K (tLc (iRng2 (tCons ta (tCons tc tNil))) g tt te ks) Γ (keptN c f (n - a).toNat) := fun H0 A σ H Q E q =>
  ha H0 A σ H _ E fun v H1 s1 rv => hn H0 A σ H1 _ (E.mono s1) fun w H2 s2 rw' => by
    cases rv
    cases rw'
    exact ⟨a, n, rfl, by simpa using z.2, comp_rg c f z.1 h ((E.mono s1).mono s2) fun p vs H' np s e r => q p vs H' (s1.free (s2.free np)) (s1.trans (s2.trans s)) e r⟩
end
/-! .. without a test: the list ys, item by item -/
section
variable {te : TE} {i : Nat}
/-- a turn whose target is the name in slot i -/
theorem ct1 {tt : TT} {x y : T} {c : Bool} (hb : EvB K tt ((wipeD Γ [i]).set i (.t x)) c) (h : c = true → Ev K te ((wipeD Γ [i]).set i (.t x)) y) : CT K Γ (gName i) tt te [i] x c y := ⟨_, gv_name i x (by simp), hb, h⟩
theorem getD_of {ys : List T} {j : Nat} {P : T → Prop} (hj : j < ys.length) (h : ∀ y, ys[j]? = some y → P y) : P (ys.getD j .non) := by
  have e : ys[j]? = some (ys.getD j .non) := by simp [List.getD, List.getElem?_eq_getElem hj]
  exact h _ e
theorem evf_lcL {tl : TE} {xs : List T} (ys : List T) (hl : EvL K tl Γ xs) (e : xs.length = ys.length) (z : xs.length < 1000000) (h : ∀ (j : Nat) (x y : T), xs[j]? = some x → ys[j]? = some y → Ev K te ((wipeD Γ [i]).set i (.t x)) y) : EvF K (tLc (iList K tl) (gName i) tYes te [i]) Γ ys :=
  evf_eq (evf_compL (fun _ => true) (fun j => ys.getD j .non) hl z fun j x hx => ct1 evb_yes fun _ => getD_of (by rw [← e]; exact (List.getElem?_eq_some_iff.mp hx).1) (h j x · hx)) (by rw [e, keptN_all])
theorem evf_lcT {tl : TE} {xs : List T} (ys : List T) (hl : Ev K tl Γ (.tup xs)) (e : xs.length = ys.length) (z : xs.length < 1000000) (h : ∀ (j : Nat) (x y : T), xs[j]? = some x → ys[j]? = some y → Ev K te ((wipeD Γ [i]).set i (.t x)) y) : EvF K (tLc (iTup K tl) (gName i) tYes te [i]) Γ ys :=
  evf_eq (evf_compT (fun _ => true) (fun j => ys.getD j .non) hl z fun j x hx => ct1 evb_yes fun _ => getD_of (by rw [← e]; exact (List.getElem?_eq_some_iff.mp hx).1) (h j x · hx)) (by rw [e, keptN_all])
theorem evf_lcR {ta : TE} {n : Int} (ys : List T) (hn : Ev K ta Γ (.int n)) (e : n.toNat = ys.length) (z : -4611686018427387904 ≤ n ∧ n < 1000000) (h : ∀ (j : Nat) (y : T), ys[j]? = some y → Ev K te ((wipeD Γ [i]).set i (.t (.int j))) y) : EvF K (tLc (iRng1 (tCons ta tNil)) (gName i) tYes te [i]) Γ ys :=
  evf_eq (evf_compR1 (fun _ => true) (fun j => ys.getD j .non) hn z fun j hj => ct1 evb_yes fun _ => getD_of (by rw [← e]; exact hj) (h j)) (by rw [e, keptN_all])
/-- three items -/
theorem evf_lcT3 {tl : TE} {x1 x2 x3 y1 y2 y3 : T} (hl : Ev K tl Γ (.tup [x1, x2, x3])) (h1 : Ev K te ((wipeD Γ [i]).set i (.t x1)) y1) (h2 : Ev K te ((wipeD Γ [i]).set i (.t x2)) y2) (h3 : Ev K te ((wipeD Γ [i]).set i (.t x3)) y3) : EvF K (tLc (iTup K tl) (gName i) tYes te [i]) Γ [y1, y2, y3] :=
  evf_lcT _ hl rfl (by show 3 < 1000000; decide) fun j x y hx hy => match j, hx, hy with
    | 0, hx, hy => by cases hx; cases hy; exact h1
    | 1, hx, hy => by cases hx; cases hy; exact h2
    | 2, hx, hy => by cases hx; cases hy; exact h3
    | k + 3, hx, _ => by simp at hx
theorem evf_lcR3 {y1 y2 y3 : T} (h1 : Ev K te ((wipeD Γ [i]).set i (.t (.int 0))) y1) (h2 : Ev K te ((wipeD Γ [i]).set i (.t (.int 1))) y2) (h3 : Ev K te ((wipeD Γ [i]).set i (.t (.int 2))) y3) : EvF K (tLc (iRng1 (tCons (tC (.int 3)) tNil)) (gName i) tYes te [i]) Γ [y1, y2, y3] :=
  evf_lcR _ ev_int rfl (by decide) fun j y hy => match j, hy with
    | 0, hy => by cases hy; exact h1
    | 1, hy => by cases hy; exact h2
    | 2, hy => by cases hy; exact h3
    | k + 3, hy => by simp at hy
/-- [tuple(line) for line in lines], lines a list of lists -/
theorem evf_lines {L : Nat} {xss : List (List T)} (hL : Γ[L]? = some (.ll xss)) (z : xss.length < 1000000) (n : i < Γ.length) : EvF K (tLc (iList K (tVar L)) (gName i) tYes (tThen (tVar i) (kTup K)) [i]) Γ (xss.map T.tup) := fun H0 A σ H Q E q => by
  have sL := E.sl L _ hL
  cases e : σ[L]? with
  | none => rw [e] at sL; exact sL.elim
  | some o => cases o with
    | none => rw [e] at sL; exact sL.elim
    | some v =>
      rw [e] at sL
      obtain ⟨b, vs, e1, sq, r⟩ := sL
      subst e1
      refine ⟨_, e, b, rfl, ⟨vs, sq.1⟩, fun D hD => lc_list (K := K) (a := b) (xs := vs) (fun j H1 => Same H H1 ∧ ∃ acc, H1 D = some (.lst acc) ∧ Rps K H1 acc ((xss.take j).map T.tup)) ⟨same_upd hD, [], upd_same, .nil⟩ (fun j H1 _ p => p.1.seq sq.1) ?_ ?_⟩
      · rintro j v H1 hj ⟨s, acc, ha, ra⟩
        obtain ⟨c, ws, xs, e2, hx, hc, rw'⟩ := r.at' hj
        subst e2
        have hil : i < σ.length := by rw [E.len]; exact n
        refine ⟨?_, ?_⟩
        · show ((wipe σ [i]).set i (some (.ref c))).set i none = _
          rw [List.set_set]
          show (σ.set i none).set i none = σ.set i none
          rw [List.set_set]
        · show tThen (tVar i) (kTup K) ((wipe σ [i]).set i (some (.ref c))) H1 _
          refine ⟨.ref c, ?_, .inl ⟨c, ws, rfl, s.seq hc.1, fun p hp => ?_⟩⟩
          · show ((σ.set i none).set i (some (.ref c)))[i]? = _
            rw [List.set_set, List.getElem?_set_self hil]
          · have npD : D ≠ p := ne_of_none ha hp
            refine ⟨acc, by rw [upd_ne npD]; exact ha, ?_, ?_⟩
            · rw [ra.length, List.length_map, List.length_take, sizeLine_eq]; omega
            · have h4 : (upd H1 p (.tup ws)) D = some (.lst acc) := by rw [upd_ne npD]; exact ha
              have m1 : Imm H1 (upd H1 p (.tup ws)) := Imm.of_same (same_upd hp)
              have m2 : Imm (upd H1 p (.tup ws)) (upd (upd H1 p (.tup ws)) D (.lst (acc ++ [.ref p]))) := Imm.of_lst h4
              refine ⟨fun b o q => ?_, _, upd_same, ?_⟩
              · rw [upd_ne (ne_of_none q hD)]
                exact same_upd hp _ _ (s _ _ q)
              · rw [take_snoc hx, List.map_append]
                refine ((ra.mono m1).mono m2).append (.cons (.tup (m2.sqT (.of upd_same)) ?_) .nil)
                exact ((rw'.mono (Imm.of_same s)).mono m1).mono m2
      · rintro H1 ⟨s, acc, ha, ra⟩
        rw [r.length, List.take_length] at ra
        exact q D acc H1 hD s ha ra
end
end

/-! ### a def -/
def startD (N : List Str) (ds : List D) : List D := ds ++ List.replicate (N.length - ds.length) .no
theorem Args.noown {K : PySem.W.Frag} {H : Hp} : ∀ {vs : List V} {ds : List D} {i : Nat} {xs : List T}, Args K H vs ds → ds[i]? ≠ some (.own xs)
  | _, _, _, _, .nil, e => by simp at e
  | _, _, 0, _, .cons h _, e => by
    rw [List.getElem?_cons_zero] at e
    rw [Option.some.inj e] at h
    exact h
  | _, _, i + 1, xs, .cons _ r, e => Args.noown (i := i) (xs := xs) r (by simpa using e)
theorem Args.at' {K : PySem.W.Frag} {H : Hp} : ∀ {vs : List V} {ds : List D} {i : Nat} {d : D}, Args K H vs ds → ds[i]? = some d → ∃ v, vs[i]? = some v ∧ Arg K H v d
  | _, _, _, _, .nil, e => by simp at e
  | _, _, 0, _, .cons h _, e => by
    rw [List.getElem?_cons_zero] at e
    rw [Option.some.inj e] at h
    exact ⟨_, rfl, h⟩
  | _, _, i + 1, d, .cons _ r, e => by
    obtain ⟨v, h1, h2⟩ := Args.at' (i := i) (d := d) r (by simpa using e)
    exact ⟨v, by simpa using h1, h2⟩
theorem env_start {K : PySem.W.Frag} {H : Hp} {N : List Str} {vs : List V} {ds : List D} (h : Args K H vs ds) : EnvD K H H (L2.start N vs) (startD N ds) (fun _ => 0) := by
  have hl := h.length
  have no : ∀ (i : Nat) (xs : List T), (startD N ds)[i]? ≠ some (D.own xs) := fun i xs e => by
    unfold startD at e
    by_cases k : i < ds.length
    · rw [List.getElem?_append_left k] at e
      exact h.noown e
    · rw [List.getElem?_append_right (by omega), List.getElem?_replicate] at e
      split at e <;> cases e
  refine ⟨Same.refl H, ?_, fun i d e => ?_, fun i j xs ys hi => absurd hi (no i xs)⟩
  · unfold L2.start startD
    simp only [List.length_append, List.length_map, List.length_replicate]
    omega
  · unfold startD at e
    unfold L2.start
    by_cases k : i < ds.length
    · rw [List.getElem?_append_left k] at e
      obtain ⟨v, hv, ha⟩ := h.at' e
      rw [List.getElem?_append_left (by rw [List.length_map]; omega), List.getElem?_map, hv]
      cases d with
      | no => trivial
      | t x => exact ha
      | l xs =>
        obtain ⟨b, ws, e1, s, r⟩ := ha
        exact ⟨b, ws, e1, s, fun ⟨j, ys, hj, _⟩ => absurd hj (no j ys), r⟩
      | own xs => exact absurd e h.noown
      | rf a => exact ha.elim
      | ll a => exact ha.elim
    · rw [List.getElem?_append_right (by omega), List.getElem?_replicate] at e
      split at e
      · cases e
        unfold Sl
        split <;> trivial
      · cases e
abbrev W0 : WX := fun _ _ _ _ => False
/-- what a def's body is to reach: r comes back -/
abbrev toRet (r : D) : Po := { nx := fun _ => r = .t .non, rt := fun d => d = r }
section
variable {P : Program} {w : World} {K : PySem.W.Frag} {mg : Str → Option Value} {base : Heap}
/-- THE RULE for a def that raises nothing -/
theorem fn_d {x qual : Str} {st : Stmt} {f : Addr} {fd : FuncData} {N ps : List Str} {k : Nat} {R : List D → D → Prop} (F : Fun K x qual st f fd) (S : FnScope N ps (defScope st)) (len : ∀ ds r, R ds r → ds.length = ps.length)
    (hbody : ∀ (cdv : Value) (A : Around) (outer : List Env) (s : Shared) (H : Hp) (E : XK), Room k (A.deeper (envOfC qual (defScope st) s.heap.objs.size f cdv)) →
      ∃ t, PSs (cxOf CX0 P w K mg base N qual (defScope st) f cdv A outer s H E).nox (defBody st) t ∧ ∀ ds r, R ds r → Sv K W0 t (startD N ds) (toRet r)) : FnOk P w K mg base CX0 (k + 1) f fd ps (spD K R) := by
  refine F.ok S (fun vs H Q E ⟨ds, r, h, ha, _⟩ => by rw [ha.length]; exact len ds r h) (fun cdv A outer s H vs Q E hr ⟨ds, r, h, ha, q⟩ => ?_)
  obtain ⟨t, ht, hs⟩ := hbody cdv A outer s H E hr
  refine ⟨t, ht, hs ds r h H _ _ H _ (env_start ha) ⟨fun G B σ H' e E' _ => ?_, fun r' v H' e hres s' => ?_, fun _ _ _ _ z => z.elim, fun _ _ _ _ z => z.elim, fun _ _ _ _ _ z => z.elim⟩⟩
  · subst e
    exact q .non H' E'.same .non
  · subst e
    exact q v H' s' hres
end
/-! ### a def that may raise -/
inductive Rs where
  | ok (d : D)
  | er (C : Addr)
def spX (K : PySem.W.Frag) (R : List D → Rs → Prop) : Sp := fun vs H Q E => ∃ ds r, R ds r ∧ Args K H vs ds ∧ match r with
  | .ok d => ∀ v H', Same H H' → Res K H H' v d → Q v H'
  | .er C => ∀ H', Same H H' → E (.ref C) none H'
abbrev toRs (r : Rs) : Po := { nx := fun _ => r = .ok (.t .non), rt := fun d => r = .ok d, er := fun C _ => r = .er C }
section
variable {P : Program} {w : World} {K : PySem.W.Frag} {mg : Str → Option Value} {base : Heap}
theorem fn_x {x qual : Str} {st : Stmt} {f : Addr} {fd : FuncData} {N ps : List Str} {k : Nat} {R : List D → Rs → Prop} (F : Fun K x qual st f fd) (S : FnScope N ps (defScope st)) (len : ∀ ds r, R ds r → ds.length = ps.length)
    (hbody : ∀ (cdv : Value) (A : Around) (outer : List Env) (s : Shared) (H : Hp) (E : XK), Room k (A.deeper (envOfC qual (defScope st) s.heap.objs.size f cdv)) →
      ∃ t, PSs (cxOf (L2.CX P w) P w K mg base N qual (defScope st) f cdv A outer s H E) (defBody st) t ∧ ∀ ds r, R ds r → Sv K (fun cls d _ H => E cls d H) t (startD N ds) (toRs r)) : FnOk P w K mg base (L2.CX P w) (k + 1) f fd ps (spX K R) := by
  refine F.okX S (fun vs H Q E ⟨ds, r, h, ha, _⟩ => by rw [ha.length]; exact len ds r h) (fun cdv A outer s H vs Q E hr ⟨ds, r, h, ha, q⟩ => ?_)
  obtain ⟨t, ht, hs⟩ := hbody cdv A outer s H E hr
  refine ⟨t, ht, hs ds r h H _ _ H _ (env_start ha) ⟨fun G B σ H' e E' _ => ?_, fun r' v H' e hres s' => ?_, fun _ _ _ _ z => z.elim, fun _ _ _ _ z => z.elim, fun C G B σ H' e E' _ => ?_⟩⟩
  · subst e
    exact q .non H' E'.same .non
  · subst e
    exact q v H' s' hres
  · subst e
    exact q H' E'.same
end
section
variable {K : PySem.W.Frag} {Γ : List D} {W : WX} {P : Po} {t : TA}
theorem ev_callX {R : List D → Rs → Prop} {ds : List D} {x : T} {E : XK} (ha : EvA K t Γ ds) (hp : R ds (.ok (.t x))) : Ev K (tCall (spX K R) [] E t) Γ x := fun H0 A σ H Q EE q =>
  ha H0 A σ H _ EE fun vs H1 s1 r1 => ⟨ds, _, hp, by rw [List.append_nil]; exact r1, fun v H2 s2 r2 => q v H2 (s1.trans s2) r2⟩
theorem eve_callX {R : List D → Rs → Prop} {ds : List D} {C : Addr} {E : XK} (ha : EvA K t Γ ds) (hp : R ds (.er C)) : EvE K (fun cls d _ H => E cls d H) (tCall (spX K R) [] E t) Γ C := fun H0 A σ H Q EE q =>
  ha H0 A σ H _ EE fun vs H1 s1 r1 => ⟨ds, _, hp, by rw [List.append_nil]; exact r1, fun H2 s2 => q H2 (s1.trans s2)⟩
/-! in a try -/
theorem sv_dropE {te : TE} {C : Addr} (h : EvE K W te Γ C) (hr : P.er C Γ) : Sv K W (tDrop te) Γ P := fun H0 A σ H E hE M =>
  h H0 A σ H _ hE fun H1 s => M.er C Γ A σ H1 hr (hE.mono s) (.of_same s)
/-- isinstance(x, c) of data -/
theorem ev_isi {te : TE} {x : T} {c : V} {u : Value} {b : Bool} (h : Ev K te Γ x) (hc : ClsV c u) (k : ∀ v H, Rp K H v x → ∃ t, TyX K H v t ∧ PySem.W.kitOne K t u = some b) : Ev K (tCB (rIsi K) (tCons te (tCons (tC c) tNil))) Γ (.bl b) := fun H0 A σ H Q E q =>
  h H0 A σ H _ E fun v H1 s r => by
    obtain ⟨t, ty, kk⟩ := k v H1 r
    exact ⟨v, c, t, u, b, rfl, hc, ty, kk, q _ H1 s (.bl b)⟩
end
end Cz

namespace Cz
open PySem PySem.Spec PyProof.Rows L2

/-! ### rows and tables -/
structure Row where
  x : Int
  y : Int
  z : Int
  deriving DecidableEq
structure Mat where
  a : Row
  b : Row
  c : Row
  deriving DecidableEq
theorem Row.ext' {r s : Row} (h1 : r.x = s.x) (h2 : r.y = s.y) (h3 : r.z = s.z) : r = s := by
  cases r; cases s; simp_all
theorem Mat.ext' {m n : Mat} (h1 : m.a = n.a) (h2 : m.b = n.b) (h3 : m.c = n.c) : m = n := by
  cases m; cases n; simp_all
def dot (r s : Row) : Int := r.x * s.x + r.y * s.y + r.z * s.z
def cross (r s : Row) : Row := ⟨r.y * s.z - r.z * s.y, r.z * s.x - r.x * s.z, r.x * s.y - r.y * s.x⟩
def Mat.tr (m : Mat) : Mat := ⟨⟨m.a.x, m.b.x, m.c.x⟩, ⟨m.a.y, m.b.y, m.c.y⟩, ⟨m.a.z, m.b.z, m.c.z⟩⟩
def image (m : Mat) (r : Row) : Row := ⟨dot m.a r, dot m.b r, dot m.c r⟩
def mul (m n : Mat) : Mat := ⟨image n.tr m.a, image n.tr m.b, image n.tr m.c⟩
def det (m : Mat) : Int := dot (cross m.a m.b) m.c
def adj (m : Mat) : Mat := Mat.tr ⟨cross m.b m.c, cross m.c m.a, cross m.a m.b⟩
def one : Mat := ⟨⟨1, 0, 0⟩, ⟨0, 1, 0⟩, ⟨0, 0, 1⟩⟩
def smul (k : Int) (m : Mat) : Mat := ⟨⟨k * m.a.x, k * m.a.y, k * m.a.z⟩, ⟨k * m.b.x, k * m.b.y, k * m.b.z⟩, ⟨k * m.c.x, k * m.c.y, k * m.c.z⟩⟩
theorem image_mul (m n : Mat) (r : Row) : image (mul m n) r = image m (image n r) := by
  apply Row.ext' <;> (simp only [image, mul, Mat.tr, dot]; grind)
theorem mul_assoc (m n k : Mat) : mul (mul m n) k = mul m (mul n k) := by
  apply Mat.ext' <;> apply Row.ext' <;> (simp only [image, mul, Mat.tr, dot]; grind)
theorem det_mul (m n : Mat) : det (mul m n) = det m * det n := by
  simp only [image, mul, Mat.tr, dot, det, cross]; grind
theorem mul_one' (m : Mat) : mul m one = m := by
  apply Mat.ext' <;> apply Row.ext' <;> (simp only [image, mul, Mat.tr, dot, one]; grind)
theorem one_mul' (m : Mat) : mul one m = m := by
  apply Mat.ext' <;> apply Row.ext' <;> (simp only [image, mul, Mat.tr, dot, one]; grind)
theorem mul_adj (m : Mat) : mul m (adj m) = smul (det m) one := by
  apply Mat.ext' <;> apply Row.ext' <;> (simp only [image, mul, Mat.tr, dot, one, adj, smul, det, cross]; grind)
theorem adj_mul (m : Mat) : mul (adj m) m = smul (det m) one := by
  apply Mat.ext' <;> apply Row.ext' <;> (simp only [image, mul, Mat.tr, dot, one, adj, smul, det, cross]; grind)
theorem image_one (r : Row) : image one r = r := by
  apply Row.ext' <;> (simp only [image, dot, one]; grind)

/-! ### sizes -/
theorem Sm.of {x : Int} (n : Nat) (h : x.natAbs < 2 ^ n) : Sm n x := h
theorem Sm.add' {n m : Nat} {x y : Int} (h : Sm n x) (k : Sm m y) : Sm (n + m + 1) (x + y) := (h.add k).mono (by omega)
theorem Sm.sub' {n m : Nat} {x y : Int} (h : Sm n x) (k : Sm m y) : Sm (n + m + 1) (x - y) := (h.sub k).mono (by omega)
theorem Sm.add2 {n : Nat} {x y : Int} (h : Sm n x) (k : Sm n y) : Sm (n + 1) (x + y) := (h.add k).mono (by omega)
theorem Sm.sub2 {n : Nat} {x y : Int} (h : Sm n x) (k : Sm n y) : Sm (n + 1) (x - y) := (h.sub k).mono (by omega)
structure Row.sm (n : Nat) (r : Row) : Prop where
  x : Sm n r.x
  y : Sm n r.y
  z : Sm n r.z
structure Mat.sm (n : Nat) (m : Mat) : Prop where
  a : m.a.sm n
  b : m.b.sm n
  c : m.c.sm n
theorem Row.sm.mono {n m : Nat} {r : Row} (h : r.sm n) (k : n ≤ m) : r.sm m := ⟨h.x.mono k, h.y.mono k, h.z.mono k⟩
theorem Mat.sm.mono {n m : Nat} {r : Mat} (h : r.sm n) (k : n ≤ m) : r.sm m := ⟨h.a.mono k, h.b.mono k, h.c.mono k⟩
theorem sm_dot {n m : Nat} {r s : Row} (h : r.sm n) (k : s.sm m) : Sm (n + m + 2) (dot r s) := ((h.x.mul k.x).add2 (h.y.mul k.y)).add2 ((h.z.mul k.z).mono (Nat.le_succ _))
theorem sm_cross {n m : Nat} {r s : Row} (h : r.sm n) (k : s.sm m) : (cross r s).sm (n + m + 1) := ⟨(h.y.mul k.z).sub2 (h.z.mul k.y), (h.z.mul k.x).sub2 (h.x.mul k.z), (h.x.mul k.y).sub2 (h.y.mul k.x)⟩
theorem sm_image {n k : Nat} {m : Mat} {r : Row} (h : m.sm n) (q : r.sm k) : (image m r).sm (n + k + 2) := ⟨sm_dot h.a q, sm_dot h.b q, sm_dot h.c q⟩
theorem sm_tr {n : Nat} {m : Mat} (h : m.sm n) : m.tr.sm n := ⟨⟨h.a.x, h.b.x, h.c.x⟩, ⟨h.a.y, h.b.y, h.c.y⟩, ⟨h.a.z, h.b.z, h.c.z⟩⟩
theorem sm_mul {n k : Nat} {m q : Mat} (h : m.sm n) (g : q.sm k) : (mul m q).sm (n + k + 2) := by
  have e : k + n + 2 = n + k + 2 := by omega
  exact ⟨e ▸ sm_image (sm_tr g) h.a, e ▸ sm_image (sm_tr g) h.b, e ▸ sm_image (sm_tr g) h.c⟩
theorem sm_det {n : Nat} {m : Mat} (h : m.sm n) : Sm (3 * n + 3) (det m) := (sm_dot (sm_cross h.a h.b) h.c).mono (by omega)
theorem sm_adj {n : Nat} {m : Mat} (h : m.sm n) : (adj m).sm (2 * n + 1) := sm_tr ⟨(sm_cross h.b h.c).mono (by omega), (sm_cross h.c h.a).mono (by omega), (sm_cross h.a h.b).mono (by omega)⟩

/-! ### their data -/
abbrev row (r : Row) : T := .tup [.int r.x, .int r.y, .int r.z]
abbrev mat (m : Mat) : T := .tup [row m.a, row m.b, row m.c]
def intsT (ns : List Int) : List T := ns.map T.int
theorem intsT_at {ns : List Int} {i : Nat} {n : Int} (h : ns[i]? = some n) : (intsT ns)[i]? = some (.int n) := by unfold intsT; rw [List.getElem?_map, h]; rfl
theorem intsT_len (ns : List Int) : (intsT ns).length = ns.length := by unfold intsT; rw [List.length_map]
section
variable {K : PySem.W.Frag} {Γ : List D} {W : WX} {P : Po}
/-- items of a display -/
def EvTs (K : PySem.W.Frag) (t : TA) (Γ : List D) (ts : List T) : Prop := EvA K t Γ (ts.map D.t)
theorem evt_nil : EvTs K tNil Γ [] := eva_nil
theorem evt_cons {ta : TE} {tr : TA} {x : T} {xs : List T} (h : Ev K ta Γ x) (k : EvTs K tr Γ xs) : EvTs K (tCons ta tr) Γ (x :: xs) := eva_t h k
theorem ev_tups {t : TA} {ts : List T} (h : EvTs K t Γ ts) (z : ts.length ≤ 1000) : Ev K (tTup t) Γ (.tup ts) := ev_tup ts h rfl z
theorem evf_lsts {t : TA} {ts : List T} (h : EvTs K t Γ ts) (z : ts.length ≤ 1000) : EvF K (tLst t) Γ ts := evf_lst ts h rfl z
theorem ev_row {ta tb tc : TE} {a b c : Int} (h1 : Ev K ta Γ (.int a)) (h2 : Ev K tb Γ (.int b)) (h3 : Ev K tc Γ (.int c)) : Ev K (tTup (tCons ta (tCons tb (tCons tc tNil)))) Γ (row ⟨a, b, c⟩) :=
  ev_tups (evt_cons h1 (evt_cons h2 (evt_cons h3 evt_nil))) (by show 3 ≤ 1000; decide)
theorem ev_mat {ta tb tc : TE} {a b c : Row} (h1 : Ev K ta Γ (row a)) (h2 : Ev K tb Γ (row b)) (h3 : Ev K tc Γ (row c)) : Ev K (tTup (tCons ta (tCons tb (tCons tc tNil)))) Γ (mat ⟨a, b, c⟩) :=
  ev_tups (evt_cons h1 (evt_cons h2 (evt_cons h3 evt_nil))) (by show 3 ≤ 1000; decide)
/-- a, b = x, y -/
theorem sv_par2 {ta tb : TE} {i j : Nat} {x y : T} (h1 : Ev K ta Γ x) (h2 : Ev K tb Γ y) (n : P.nx ((Γ.set i (.t x)).set j (.t y))) : Sv K W (tPar i j (tCons ta (tCons tb tNil))) Γ P := fun H0 A σ H E hE M =>
  h1 H0 A σ H _ hE fun v H1 s1 r1 => h2 H0 A σ H1 _ (hE.mono s1) fun w H2 s2 r2 =>
    ⟨v, w, rfl, M.nx _ _ _ H2 n ((((hE.mono s1).mono s2).setT (Rp.mono (Imm.of_same s2) r1)).setT r2) ((Go.setT.trans Go.setT).same_then (s1.trans s2))⟩
theorem sv_par3 {ta tb tc : TE} {i j l : Nat} {x y z : T} (h1 : Ev K ta Γ x) (h2 : Ev K tb Γ y) (h3 : Ev K tc Γ z) (n : P.nx (((Γ.set i (.t x)).set j (.t y)).set l (.t z))) : Sv K W (tPar3 i j l (tCons ta (tCons tb (tCons tc tNil)))) Γ P := fun H0 A σ H E hE M =>
  h1 H0 A σ H _ hE fun v H1 s1 r1 => h2 H0 A σ H1 _ (hE.mono s1) fun w H2 s2 r2 => h3 H0 A σ H2 _ ((hE.mono s1).mono s2) fun u H3 s3 r3 =>
    ⟨v, w, u, rfl, M.nx _ _ _ H3 n ((((((hE.mono s1).mono s2).mono s3).setT (Rp.mono (Imm.of_same (s2.trans s3)) r1)).setT (Rp.mono (Imm.of_same s3) r2)).setT r3) (((Go.setT.trans Go.setT).trans Go.setT).same_then (s1.trans (s2.trans s3)))⟩
end

/-! ### short loops; a table of lists with one item set -/
section
variable {K : PySem.W.Frag} {Γ : List D} {W : WX} {P : Po}
/-- for k in range(3) -/
theorem sv_range3 {k : Nat} {tb : TS} {G1 G2 G3 : List D} (h0 : Sv K W tb (Γ.set k (.t (.int 0))) { P with nx := fun G => G = G1, ct := fun G => G = G1, bk := P.nx }) (h1 : Sv K W tb (G1.set k (.t (.int 1))) { P with nx := fun G => G = G2, ct := fun G => G = G2, bk := P.nx })
    (h2 : Sv K W tb (G2.set k (.t (.int 2))) { P with nx := fun G => G = G3, ct := fun G => G = G3, bk := P.nx }) (n : P.nx G3) : Sv K W (tFor (iRng1 (tCons (tC (.int 3)) tNil)) (gName k) tb) Γ P :=
  sv_range1 (n := 3) (fun i G => G = match i with | 0 => Γ | 1 => G1 | 2 => G2 | _ => G3) ev_int (by decide) rfl (fun i G hi hG => match i, hi, hG with
    | 0, _, hG => ⟨_, gd_name k _, by rw [hG]; exact h0⟩
    | 1, _, hG => ⟨_, gd_name k _, by rw [hG]; exact h1⟩
    | 2, _, hG => ⟨_, gd_name k _, by rw [hG]; exact h2⟩
    | j + 3, hi, _ => absurd hi (by show ¬ (j + 3 < 3); omega)) (fun G hG => by rw [hG]; exact n)
def oneL : List (List T) := [[.int 1, .int 0, .int 0], [.int 0, .int 1, .int 0], [.int 0, .int 0, .int 1]]
def setL (i j : Nat) (v : Int) : List (List T) := oneL.set i ((oneL.getD i []).set j (.int v))
abbrev tInts3 (a b c : Int) : TE := tLst (tCons (tC (.int a)) (tCons (tC (.int b)) (tCons (tC (.int c)) tNil)))
end

/-! ### == of such data -/
theorem eqv_int (i j : Int) : PyData.eqv (.int i) (.int j) = decide (i = j) := by simp [PyData.eqv, Bool.beq_eq_decide_eq]
theorem eqv_row (r s : Row) : PyData.eqv (T.py (row r)) (T.py (row s)) = decide (r = s) := by
  show PyData.eqv (.tuple [.int r.x, .int r.y, .int r.z]) (.tuple [.int s.x, .int s.y, .int s.z]) = _
  rw [PyData.eqv]
  simp only [PyData.eqvAll, eqv_int]
  cases r
  cases s
  simp
theorem eqv_mat (m n : Mat) : PyData.eqv (T.py (mat m)) (T.py (mat n)) = decide (m = n) := by
  have e : PyData.eqv (T.py (mat m)) (T.py (mat n)) = (PyData.eqv (T.py (row m.a)) (T.py (row n.a)) && (PyData.eqv (T.py (row m.b)) (T.py (row n.b)) && (PyData.eqv (T.py (row m.c)) (T.py (row n.c)) && true))) := by
    show PyData.eqv (.tuple [T.py (row m.a), T.py (row m.b), T.py (row m.c)]) (.tuple [T.py (row n.a), T.py (row n.b), T.py (row n.c)]) = _
    rw [PyData.eqv]
    simp only [PyData.eqvAll]
  rw [e, eqv_row, eqv_row, eqv_row]
  cases m
  cases n
  simp
theorem pl_row (r : Row) : Pl (row r) := ⟨rfl, by rfl⟩
theorem pl_mat (m : Mat) : Pl (mat m) := ⟨rfl, by rfl⟩
theorem ev_eqR {K : PySem.W.Frag} {Γ : List D} {ta tb : TE} {r s : Row} (h : Ev K ta Γ (row r)) (k : Ev K tb Γ (row s)) : Ev K (tOp (rEqD K) ta tb) Γ (.bl (decide (r = s))) := ev_eq (ev_eqD (pl_row r) (pl_row s) h k) (by rw [eqv_row])
theorem ev_neR {K : PySem.W.Frag} {Γ : List D} {ta tb : TE} {r s : Row} (h : Ev K ta Γ (row r)) (k : Ev K tb Γ (row s)) : Ev K (tOp (rNeD K) ta tb) Γ (.bl (!decide (r = s))) := ev_eq (ev_neD (pl_row r) (pl_row s) h k) (by rw [eqv_row])
theorem ev_neM {K : PySem.W.Frag} {Γ : List D} {ta tb : TE} {r s : Mat} (h : Ev K ta Γ (mat r)) (k : Ev K tb Γ (mat s)) : Ev K (tOp (rNeD K) ta tb) Γ (.bl (!decide (r = s))) := ev_eq (ev_neD (pl_mat r) (pl_mat s) h k) (by rw [eqv_mat])
/-- a draw out of a list by a remainder -/
theorem atI_nat' {ts : List T} {i : Int} {j : Nat} {t : T} (e : i = (j : Int)) (h : ts[j]? = some t) : L2.atI ts i = some t := by
  rw [e]
  exact atI_nat h
end Cz

namespace Cz
open PySem PyProof.Rows L2
theorem lt_ok {n m : Nat} (h : Nat.ble (n + 1) m = true) : n < m := Nat.le_of_ble_eq_true h
theorem le_ok {n m : Nat} (h : Nat.ble n m = true) : n ≤ m := Nat.le_of_ble_eq_true h
instance (n : Nat) (x : Int) : Decidable (Sm n x) := inferInstanceAs (Decidable (x.natAbs < 2 ^ n))
theorem Sm.emod {x m : Int} {n : Nat} (h : 0 < m) (k : m.natAbs ≤ 2 ^ n) : Sm n (x % m) := by
  have h1 := Int.emod_nonneg x (by omega : m ≠ 0)
  have h2 := Int.emod_lt_of_pos x h
  unfold Sm
  omega
theorem Sm.bit {b : Bool} : Sm 1 (if b = true then 1 else 0) := by
  cases b <;> decide
theorem Sm.abs {x : Int} {n : Nat} (h : Sm n x) : Sm n (if x < 0 then -x else x) := by
  unfold Sm at *
  split <;> omega
section
variable {K : PySem.W.Frag} {Γ : List D} {W : WX} {P : Po} {ta tb : TE}
theorem ev_asrow {t : TE} {a b c : Int} (h : Ev K t Γ (.tup [.int a, .int b, .int c])) : Ev K t Γ (row ⟨a, b, c⟩) := h
theorem ev_asmat {t : TE} {a b c : Row} (h : Ev K t Γ (.tup [row a, row b, row c])) : Ev K t Γ (mat ⟨a, b, c⟩) := h
/-! in, not in, of ints -/
/-! isinstance of data and a built-in type -/
def tyT : T → Option String
  | .non => some "NoneType"
  | .bl _ => some "bool"
  | .int _ => some "int"
  | .str _ => some "str"
  | .tup _ => some "tuple"
  | .obj _ _ _ => none
theorem tyx_of {H : Hp} {v : V} {x : T} {n : String} (r : Rp K H v x) (h : tyT x = some n) : TyX K H v (.type n) := by
  cases r with
  | non => cases h; exact .base .non
  | bl b => cases h; exact .base (.bl b)
  | int i => cases h; exact .base (.int i)
  | str s => cases h; exact .base (.str s)
  | tup s _ =>
    cases h
    rcases s with (s | ⟨o, s⟩) | ⟨o, its, n, k, c, _⟩
    · exact .base (.tup s)
    · exact .fTuple s
    · exact .kTuple k c
  | obj _ _ _ => cases h
theorem ev_isT {te : TE} {x : T} {n m : String} {b : Bool} (h : Ev K te Γ x) (hx : tyT x = some n) (k : kitB n m = some b) : Ev K (tCB (rIsi K) (tCons te (tCons (tC (.ty m)) tNil))) Γ (.bl b) :=
  ev_isi h (.ty m) fun v H r => ⟨_, tyx_of r hx, kit_ty k⟩
/-! lists of ints -/
def dr (ds : List Int) (j : Nat) : Int := ds.getD j 0
theorem dr_get {ds : List Int} {j : Nat} (h : j < ds.length) : ds[j]? = some (dr ds j) := by
  unfold dr
  simp [List.getD, List.getElem?_eq_getElem h]
theorem dr_at {ds : List Int} {j : Nat} {i : Int} (e : i = (j : Int)) (h : j < ds.length) : L2.atI (intsT ds) i = some (.int (dr ds j)) := atI_nat' e (intsT_at (dr_get h))
/-! elementary tables -/
theorem one_sm : one.sm 1 := ⟨⟨by decide, by decide, by decide⟩, ⟨by decide, by decide, by decide⟩, ⟨by decide, by decide, by decide⟩⟩
end
end Cz

namespace Cz
open PySem PyProof.Rows L2
/-! ### the draws of a script -/
theorem intsT_at' {ns : List Int} {i : Nat} {x : T} (h : (intsT ns)[i]? = some x) : ∃ n, ns[i]? = some n ∧ x = .int n := by
  unfold intsT at h
  rw [List.getElem?_map] at h
  cases e : ns[i]? with
  | none => rw [e] at h; cases h
  | some n => rw [e] at h; exact ⟨n, rfl, (Option.some.inj h).symm⟩
theorem intsT_snoc (ns : List Int) (n : Int) : intsT ns ++ [T.int n] = intsT (ns ++ [n]) := by unfold intsT; rw [List.map_append]; rfl
end Cz

namespace Cz
open PySem PySem.Spec PyProof.Rows L2
/-! ### rules of HandS with the written part named: within a comprehension the context is another one at each turn, its written part is not -/
section
variable {X : Cx} {a b e : Expr} {ta tb te : TE} {pos p p2 : Pos}
theorem pk_ixT (K : PySem.W.Frag) (ha : PE X a ta) (hb : PE X b tb) (hs : PlainIx b) (hK : X.K = K := by rfl) : PE X (.Subscript a b pos) (tOp (rIxT K) ta tb) := by subst hK; exact pe_ix ix_tup ha hb hs
theorem pk_ixL (K : PySem.W.Frag) (ha : PE X a ta) (hb : PE X b tb) (hs : PlainIx b) (hK : X.K = K := by rfl) : PE X (.Subscript a b pos) (tOp (rIxL K) ta tb) := by subst hK; exact pe_ix ix_list ha hb hs
theorem pk_slL (K : PySem.W.Frag) {lo hi : Option Expr} {tl th : TO} (he : PE X e te) (hl : PO X lo tl) (hu : PO X hi th) (hK : X.K = K := by rfl) : PE X (.Subscript e (.Slice lo hi none p2) pos) (tSl (rSlL K) te tl th) := by subst hK; exact pe_slice sl_list he hl hu
theorem pk_tupleOf (K : PySem.W.Frag) (hg : Gl X "tuple") (hm : X.mg "tuple" = none) (ha : PE X a ta) (na : starEach [a] X.env = (false, eval a X.env) :: starEach [] X.env := by rfl) (hK : X.K = K := by rfl) :
    PE X (.Call (.Name "tuple" p) [a] [] pos) (tThen ta (kTup K)) := by subst hK; exact pe_tupleOf hg hm ha na
theorem pk_fld (K : PySem.W.Frag) {f : Str} (he : PE X e ta) (hb : attributeBase e f X.env (eval e X.env) = eval e X.env) (hK : X.K = K := by rfl) : PE X (.Attribute e f pos) (tFld K ta f) := by subst hK; exact pe_fld he hb
theorem pki_list (K : PySem.W.Frag) {tg l : Expr} {tl : TE} (hl : PE X l tl) (hK : X.K = K := by rfl) : PI X tg l (iList K tl) := by subst hK; exact pi_list hl
theorem pki_tup (K : PySem.W.Frag) {tg l : Expr} {tl : TE} (hl : PE X l tl) (hK : X.K = K := by rfl) : PI X tg l (iTup K tl) := by subst hK; exact pi_tup hl
theorem opk_eqD (K : PySem.W.Frag) (hu : X.A.units + 64 < cLine) (hK : X.K = K := by rfl) : OpR X (compareOp .Eq) (rEqD K) := by subst hK; exact op_eqD hu
theorem opk_neD (K : PySem.W.Frag) (hu : X.A.units + 64 < cLine) (hK : X.K = K := by rfl) : OpR X (compareOp .NotEq) (rNeD K) := by subst hK; exact op_neD hu
theorem ck_len (K : PySem.W.Frag) (hK : X.K = K := by rfl) : CallR X (.builtin "len") (fun xs H Q => ∃ p ys, xs = [.ref p] ∧ (SqL K H p ys ∨ SqT K H p ys) ∧ Q (.int ys.length) H) := by subst hK; exact call_len_seq
theorem ck_isi (K : PySem.W.Frag) (hK : X.K = K := by rfl) : CallR X (.builtin "isinstance") (rIsi K) := by subst hK; exact call_isi
theorem ck_any (K : PySem.W.Frag) (hc : X.calm = true) (hK : X.K = K := by rfl) : CallR X (.builtin "any") (rAny K) := by subst hK; exact cr_any hc
theorem ck_all (K : PySem.W.Frag) (hc : X.calm = true) (hK : X.K = K := by rfl) : CallR X (.builtin "all") (rAll K) := by subst hK; exact cr_all hc
theorem pgk_tup (K : PySem.W.Frag) {es : List Expr} {k : Nat} {t : TGs} {n : Nat} (hc : X.calm = true) (h : PGs X es t) (hn : (assignEach es X.env).length = n := by rfl) (hst : (assignEach es X.env).findIdx? (·.1) = none := by rfl) (hK : X.K = K := by rfl) : PG X (.Tuple es k pos) (gTup K n t) := by subst hK; exact pg_tup hc h hn hst
end
end Cz
namespace Cz
open PySem PySem.Spec PyProof.Rows L2
/-! ### a suite that is only for instances of one class -/
end Cz
namespace Cz
open PySem PySem.Spec PyProof.Rows L2
/-! ### isinstance of an own error: what kitOne says -/
end Cz

namespace Cz
open PySem PySem.Spec PyProof.Rows L2
/-! ### instances -/
section
variable {K : PySem.W.Frag} {Γ : List D} {W : WX} {P : Po}
theorem fld_lookup : ∀ {fs : List (Str × V)} {ns : List Str} {k : Nat} {f : Str} {v : V}, fs.map (·.1) = ns → ns[k]? = some f → (ns.take k).all (fun n => !decide (n = f)) = true → (fs.map (·.2))[k]? = some v → fs.lookup f = some v
  | [], _, k, f, v, e, h, _, _ => by subst e; simp at h
  | (n, w) :: fs, _, 0, f, v, e, h, _, hv => by
    subst e
    have h1 : n = f := by simpa using h
    have h2 : w = v := by simpa using hv
    subst h1 h2
    simp [List.lookup]
  | (n, w) :: fs, _, k + 1, f, v, e, h, ha, hv => by
    subst e
    have h1 : (n :: (fs.map (·.1)).take k).all (fun n => !decide (n = f)) = true := ha
    rw [List.all_cons, Bool.and_eq_true] at h1
    have hn : ¬ n = f := by simpa using h1.1
    have ih := fld_lookup (fs := fs) (k := k) (f := f) (v := v) rfl (by simpa using h) h1.2 (by simpa using hv)
    have e2 : (f == n) = false := by simpa using fun z : f = n => hn z.symm
    simp [List.lookup, e2, ih]
theorem fld_none : ∀ {fs : List (Str × V)} {ns : List Str} {f : Str}, fs.map (·.1) = ns → ns.all (fun n => !decide (n = f)) = true → fs.lookup f = none
  | [], _, _, _, _ => rfl
  | (n, w) :: fs, _, f, e, ha => by
    subst e
    have h1 : (n :: (fs.map (·.1))).all (fun n => !decide (n = f)) = true := ha
    rw [List.all_cons, Bool.and_eq_true] at h1
    have hn : ¬ n = f := by simpa using h1.1
    have ih := fld_none (fs := fs) (f := f) rfl h1.2
    have e2 : (f == n) = false := by simpa using fun z : f = n => hn z.symm
    simp [List.lookup, e2, ih]
/-- o.f -/
theorem ev_fld {ta : TE} {C : Addr} {ns : List Str} {ts : List T} {f : Str} {x : T} (k : Nat) (h : Ev K ta Γ (.obj C ns ts)) (c : Cls K C) (n : NoAttr K C f) (h1 : ns[k]? = some f) (h2 : (ns.take k).all (fun n => !decide (n = f)) = true) (h3 : ts[k]? = some x) : Ev K (tFld K ta f) Γ x := fun H0 A σ H Q E q =>
  h H0 A σ H _ E fun v H1 s r => by
    cases r with
    | obj e en rs =>
      obtain ⟨w, hw, rw'⟩ := rs.get h3
      exact ⟨_, _, _, _, w, rfl, e, c, n, fld_lookup en h1 h2 hw, q w H1 s rw'⟩
/-- o.m(..) -/
theorem ev_meth {ta : TE} {C : Addr} {ns : List Str} {ts : List T} {m : Str} {t : TA} {ds : List D} {x : T} {R : List D → D → Prop} {Ex : XK} (h : Ev K ta Γ (.obj C ns ts)) (hm : ns.all (fun n => !decide (n = m)) = true) (ha : EvA K t Γ ds) (hp : R (.t (.obj C ns ts) :: ds) (.t x)) :
    Ev K (tMeth C m (spD K R) [] Ex ta t) Γ x := fun H0 A σ H Q E q =>
  h H0 A σ H _ E fun v H1 s1 r1 => by
    cases r1 with
    | obj e en rs =>
      refine ⟨_, _, _, rfl, e, fld_none en hm, ha H0 A σ H1 _ (E.mono s1) fun vs H2 s2 r2 => ?_⟩
      refine ⟨_, _, hp, .cons (Rp.mono (Imm.of_same s2) (.obj e en rs)) (by rw [List.append_nil]; exact r2), fun v H3 s3 r3 => q v H3 (s1.trans (s2.trans s3)) r3⟩
theorem ev_methX {ta : TE} {C : Addr} {ns : List Str} {ts : List T} {m : Str} {t : TA} {ds : List D} {x : T} {R : List D → Rs → Prop} {Ex : XK} (h : Ev K ta Γ (.obj C ns ts)) (hm : ns.all (fun n => !decide (n = m)) = true) (ha : EvA K t Γ ds) (hp : R (.t (.obj C ns ts) :: ds) (.ok (.t x))) :
    Ev K (tMeth C m (spX K R) [] Ex ta t) Γ x := fun H0 A σ H Q E q =>
  h H0 A σ H _ E fun v H1 s1 r1 => by
    cases r1 with
    | obj e en rs =>
      refine ⟨_, _, _, rfl, e, fld_none en hm, ha H0 A σ H1 _ (E.mono s1) fun vs H2 s2 r2 => ?_⟩
      refine ⟨_, _, hp, .cons (Rp.mono (Imm.of_same s2) (.obj e en rs)) (by rw [List.append_nil]; exact r2), fun v H3 s3 r3 => q v H3 (s1.trans (s2.trans s3)) r3⟩
end
/-! ### making an instance -/
/-- a heap without x -/
def hid (H : Hp) (x : Addr) : Hp := fun b => if b = x then none else H b
theorem hid_same {H : Hp} {x : Addr} : Same (hid H x) H := fun b o e => by
  unfold hid at e
  split at e
  · cases e
  · exact e
theorem hid_ne {H : Hp} {x b : Addr} (h : b ≠ x) : hid H x b = H b := if_neg h
theorem hid_at {H : Hp} {x : Addr} : hid H x x = none := if_pos rfl
theorem hid_mono {H H' : Hp} {x : Addr} (k : ∀ b o, H b = some o → b ≠ x → H' b = some o) : Same (hid H x) (hid H' x) := fun b o e => by
  by_cases h : b = x
  · subst h; rw [hid_at] at e; cases e
  · rw [hid_ne h] at *; exact k b o e h
theorem hid_upd {H : Hp} {x : Addr} {o : HO} : hid (upd H x o) x = hid H x := by
  funext b
  by_cases h : b = x
  · subst h; rw [hid_at, hid_at]
  · rw [hid_ne h, hid_ne h, upd_ne h]
/-- __init__'s promise: a fresh instance at x is given its attributes, or it raises -/
def spI (K : PySem.W.Frag) (C : Addr) (R : List D → Rs → Prop) : Sp := fun vs H Q E => ∃ (x dx : Addr) (ws : List V) (ds : List D) (r : Rs), vs = .ref x :: ws ∧ H x = some (.ins C dx []) ∧ R ds r ∧ Args K (hid H x) ws ds ∧ match r with
  | .ok (.t (.obj C' ns ts)) => C' = C ∧ ∀ H' fs, (∀ b o, H b = some o → b ≠ x → H' b = some o) → H' x = some (.ins C dx fs) → fs.map (·.1) = ns → Rps K (hid H' x) (fs.map (·.2)) ts → Q .non H'
  | .ok _ => False
  | .er Ce => ∀ H', (∀ b o, H b = some o → b ≠ x → H' b = some o) → E (.ref Ce) none H'
section
variable {K : PySem.W.Frag} {Γ : List D} {W : WX} {P : Po}
theorem ev_make {t : TA} {ds : List D} {C : Addr} {ns : List Str} {ts : List T} {R : List D → Rs → Prop} {Ex : XK} (ha : EvA K t Γ ds) (hp : R ds (.ok (.t (.obj C ns ts)))) : Ev K (tMake C (spI K C R) [] Ex t) Γ (.obj C ns ts) := fun H0 A σ H Q E q =>
  ha H0 A σ H _ E fun vs H1 s1 r1 => fun x dx nx ndx ne => by
    have s2 : Same H1 (hid (upd (upd H1 dx (.own x)) x (.ins C dx [])) x) := fun b o e => by
      rw [hid_ne (ne_of_none e nx), upd_ne (ne_of_none e nx), upd_ne (ne_of_none e ndx)]
      exact e
    refine ⟨x, dx, vs, ds, _, by rw [List.append_nil], upd_same, hp, r1.mono s2, rfl, fun H' fs k e en rs => ⟨rfl, ?_⟩⟩
    have s3 : Same H1 H' := Same.made nx ndx k
    exact q _ H' (s1.trans s3) (.obj e en (rs.mono (Imm.of_same hid_same)))
/-- the frame of an __init__: self, then data -/
theorem env_self {H : Hp} {x : Addr} {σ : L2.St} {Γ : List D} (hl : σ.length = Γ.length) (h0 : σ[0]? = some (some (.ref x))) (g0 : Γ[0]? = some (.rf x)) (h : ∀ i d, i ≠ 0 → Γ[i]? = some d → d = .no ∨ ∃ v t, σ[i]? = some (some v) ∧ d = .t t ∧ Rp K (hid H x) v t) : EnvD K (hid H x) H σ Γ (fun _ => 0) := by
  have no : ∀ (i : Nat) (xs : List T), Γ[i]? ≠ some (D.own xs) := fun i xs e => by
    by_cases z : i = 0
    · subst z; rw [g0] at e; cases e
    · rcases h i _ z e with q | ⟨v, t, _, q, _⟩ <;> cases q
  refine ⟨hid_same, hl, fun i d e => ?_, fun i j xs ys hi => absurd hi (no i xs)⟩
  by_cases z : i = 0
  · subst z
    rw [g0] at e
    cases e
    rw [h0]
    exact rfl
  · rcases h i d z e with rfl | ⟨v, t, q, rfl, r⟩
    · unfold Sl; split <;> trivial
    · rw [q]
      exact Rp.mono (Imm.of_same hid_same) r
end
/-! ### loops over three; comprehensions with two fors; all, any; gcd -/
section
variable {K : PySem.W.Frag} {Γ : List D} {W : WX} {P : Po}
theorem sv_forT3 {g : TG} {ta : TE} {tb : TS} {x1 x2 x3 : T} {G1 G2 G3 : List D} {Γ1 Γ2 Γ3 : List D} (h : Ev K ta Γ (.tup [x1, x2, x3])) (g1 : Gd K g Γ x1 Γ1) (h1 : Sv K W tb Γ1 { P with nx := fun G => G = G1, ct := fun G => G = G1, bk := P.nx })
    (g2 : Gd K g G1 x2 Γ2) (h2 : Sv K W tb Γ2 { P with nx := fun G => G = G2, ct := fun G => G = G2, bk := P.nx }) (g3 : Gd K g G2 x3 Γ3) (h3 : Sv K W tb Γ3 { P with nx := fun G => G = G3, ct := fun G => G = G3, bk := P.nx }) (n : P.nx G3) : Sv K W (tFor (iTup K ta) g tb) Γ P :=
  sv_forT (xs := [x1, x2, x3]) (fun i G => G = match i with | 0 => Γ | 1 => G1 | 2 => G2 | _ => G3) h rfl (fun i x G hx hG => match i, hx, hG with
    | 0, hx, hG => by cases hx; exact ⟨_, by rw [hG]; exact g1, h1⟩
    | 1, hx, hG => by cases hx; exact ⟨_, by rw [hG]; exact g2, h2⟩
    | 2, hx, hG => by cases hx; exact ⟨_, by rw [hG]; exact g3, h3⟩
    | j + 3, hx, _ => by simp at hx) (fun G hG => by rw [hG]; exact n)
theorem ev_all {ta : TE} (bs : List Bool) (h : EvL K ta Γ (bs.map T.bl)) : Ev K (tCB (rAll K) (tCons ta tNil)) Γ (.bl (bs.all id)) := fun H0 A σ H Q E q =>
  h H0 A σ H _ E fun b vs H1 s sq r => by
    have e := r.bls_of
    subst e
    exact ⟨b, bs, rfl, sq, q _ H1 s (.bl _)⟩
theorem ev_any {ta : TE} (bs : List Bool) (h : EvL K ta Γ (bs.map T.bl)) : Ev K (tCB (rAny K) (tCons ta tNil)) Γ (.bl (bs.any id)) := fun H0 A σ H Q E q =>
  h H0 A σ H _ E fun b vs H1 s sq r => by
    have e := r.bls_of
    subst e
    exact ⟨b, bs, rfl, sq, q _ H1 s (.bl _)⟩
theorem ev_gcd {ta tb : TE} {a b : Int} (ha : Ev K ta Γ (.int a)) (hb : Ev K tb Γ (.int b)) : Ev K (tCB rGcd (tCons ta (tCons tb tNil))) Γ (.int ((Nat.gcd a.natAbs b.natAbs : Nat) : Int)) := fun H0 A σ H Q E q =>
  ha H0 A σ H _ E fun v H1 s1 r1 => hb H0 A σ H1 _ (E.mono s1) fun w H2 s2 r2 => by
    cases r1
    cases r2
    exact ⟨a, b, rfl, q _ H2 (s1.trans s2) (.int _)⟩
theorem tYes_if {σ : L2.St} {H : Hp} {A B : Hp → Prop} (h : A H) : tYes σ H (fun b H3 => if b = true then A H3 else B H3) := by
  show (if true = true then A H else B H)
  rw [if_pos rfl]
  exact h
/-- [e for row in table for item in row], a table of rows: ys, row by row -/
theorem evf_lc2T {tl : TE} {i j : Nat} {te : TE} {xss : List (List T)} (f : T → T) (hl : Ev K tl Γ (.tup (xss.map T.tup))) (z : (xss.map List.length).sum < 1000) (hij : i ≠ j) (hi : i < Γ.length)
    (h : ∀ xs x, xs ∈ xss → x ∈ xs → Ev K te ((((wipeD Γ [i, j]).set i (.t (.tup xs))).set j .no).set j (.t x)) (f x)) :
    EvF K (tLc2 (iTup K tl) (gName i) tYes (iTup K (tVar i)) (gName j) tYes te [i, j] [j]) Γ (xss.flatten.map f) := fun H0 A σ H Q E q =>
  hl H0 A σ H _ E fun v H1 s1 rv => by
    cases rv with
    | tup sq r =>
      rename_i a vs
      have E1 := E.mono s1
      have hn : vs.length = xss.length := by rw [r.length, List.length_map]
      have hlen : ∀ k, ((xss.take k).flatten).length ≤ (xss.map List.length).sum := fun k => by
        have e : xss.flatten = (xss.take k).flatten ++ (xss.drop k).flatten := by rw [← List.flatten_append, List.take_append_drop]
        have e2 : xss.flatten.length = (xss.map List.length).sum := by rw [List.length_flatten]
        rw [← e2, e, List.length_append]
        omega
      refine ⟨a, rfl, ⟨vs, sq⟩, fun D hD => ⟨fun k m H => m = xss.length - k ∧ k ≤ xss.length ∧ Same H1 H ∧ ∃ acc, H D = some (.lst acc) ∧ Rps K H acc (((xss.take k).flatten).map f), ⟨_, rfl, Nat.zero_le _, same_upd hD, [], upd_same, .nil⟩, ?_⟩⟩
      rintro k m H2 ⟨rfl, hk, s2, acc, ha, ra⟩
      have sq2 : SqT K H2 a vs := (Imm.of_same s2).sqT sq
      by_cases hlt : k < xss.length
      · have hv : k < vs.length := by omega
        refine .inr ⟨⟨vs, vs[k], sq2, List.getElem?_eq_getElem hv⟩, fun H => k + 1 ≤ xss.length ∧ Same H1 H ∧ ∃ acc, H D = some (.lst acc) ∧ Rps K H acc (((xss.take (k + 1)).flatten).map f), fun H' ⟨p1, p2, p3⟩ => ⟨_, by omega, rfl, p1, p2, p3⟩, ?_⟩
        rintro x H' ⟨e', hx⟩
        have e'' := e'.symm
        subst e''
        have hx := hx vs sq2
        obtain ⟨t, ht, rt⟩ := r.at' hx
        rw [List.getElem?_map] at ht
        have hxs : xss[k]? = some xss[k] := List.getElem?_eq_getElem hlt
        rw [hxs] at ht
        cases ht
        have hmem : xss[k] ∈ xss := List.getElem_mem hlt
        have rt2 := Rp.mono (Imm.of_same s2) rt
        cases rt2 with
        | @tup b ws _ sx rx =>
          have E2 := (((E1.mono s2).wipe [i, j]).setT (k := i) (.tup sx rx))
          have e0 : wipe ((wipe σ [i, j]).set i (some (.ref b))) [i, j] = wipe σ [i, j] := by
            rw [wipe_set (by simp)]
            show ((((σ.set j none).set i none).set j none).set i none) = ((σ.set j none).set i none)
            rw [List.set_comm _ _ hij, List.set_set, List.set_set]
          refine ⟨e0, ?_⟩
          refine tYes_if ?_
          refine ⟨.ref b, ?_, b, rfl, ⟨ws, sx⟩, ?_⟩
          · rw [List.getElem?_set_self (by rw [wipe_length, E.len]; exact hi)]
          · have ez : ((xss.take (k + 1)).flatten) = (xss.take k).flatten ++ xss[k] := by rw [take_snoc hxs, List.flatten_append]; simp
            have hl1 := hlen (k + 1)
            rw [ez, List.length_append] at hl1
            refine ⟨fun y m H3 => m = ws.length - y ∧ y ≤ ws.length ∧ Same H1 H3 ∧ Same (hid H2 D) (hid H3 D) ∧ ∃ acc, H3 D = some (.lst acc) ∧ Rps K H3 acc (((xss.take k).flatten ++ (xss[k]).take y).map f), ⟨_, rfl, Nat.zero_le _, s2, Same.refl _, acc, ha, by rw [List.take_zero, List.append_nil]; exact ra⟩, ?_⟩
            rintro y m H3 ⟨rfl, hy, s3, g3, acc3, ha3, ra3⟩
            have hws : ws.length = (xss[k]).length := rx.length
            have nbD : ∀ c : Addr, H2 c ≠ none → c ≠ D ∨ c = D := fun c _ => by by_cases h : c = D <;> simp [h]
            have imm3 : Imm H2 H3 := by
              have g : ∀ c o, H2 c = some o → c ≠ D → H3 c = some o := fun c o e n => by
                have := g3 c o (by rw [hid_ne n]; exact e)
                rw [hid_ne n] at this
                exact this
              refine ⟨fun c us h => ?_, fun c C dx fs h => ?_⟩
              · rcases h with h | ⟨o, h⟩
                · exact .inl (g _ _ h (ne_of h ha (fun z => nomatch z)))
                · exact .inr ⟨o, g _ _ h (ne_of h ha (fun z => nomatch z))⟩
              · exact g _ _ h (ne_of h ha (fun z => nomatch z))
            have sx3 : SqT K H3 b ws := imm3.sqT sx
            by_cases hy2 : y < ws.length
            · refine .inr ⟨⟨ws, ws[y], sx3, List.getElem?_eq_getElem hy2⟩, fun H => y + 1 ≤ ws.length ∧ Same H1 H ∧ Same (hid H2 D) (hid H D) ∧ ∃ acc, H D = some (.lst acc) ∧ Rps K H acc (((xss.take k).flatten ++ (xss[k]).take (y + 1)).map f), fun H' ⟨p1, p2, p3, p4⟩ => ⟨_, by omega, rfl, p1, p2, p3, p4⟩, ?_⟩
              rintro w H' ⟨e', hw⟩
              have e'' := e'.symm
              subst e''
              have hw := hw ws sx3
              obtain ⟨t, ht, rt3⟩ := (rx.mono imm3).at' hw
              have E3 := ((((E1.mono s3).wipe [i, j]).setT (k := i) (.tup sx3 (rx.mono imm3))).wipe [j]).setT (k := j) rt3
              refine ⟨by rw [wipe_set (by simp)]; show ((((wipe σ [i, j]).set i (some (.ref b))).set j none).set j none) = _; rw [List.set_set]; rfl, ?_⟩
              refine tYes_if ?_
              refine h _ t hmem (List.mem_of_getElem? ht) H0 A _ H3 _ E3 fun u H4 s4 r4 => ?_
              refine ⟨acc3, s4 _ _ ha3, ?_, hy2, ?_, ?_, _, upd_same, ?_⟩
              · rw [ra3.length, List.length_map, List.length_append, List.length_take, sizeLine_eq]; omega
              · exact fun c o e => by
                  rw [upd_ne (ne_of_none e hD)]
                  exact s4 _ _ (s3 _ _ e)
              · rw [hid_upd]
                exact g3.trans (hid_mono fun c o e _ => s4 c o e)
              · have m4 : Imm H4 (upd H4 D (.lst (acc3 ++ [u]))) := Imm.of_lst (s4 _ _ ha3)
                rw [take_snoc ht, ← List.append_assoc, List.map_append]
                exact ((ra3.mono (Imm.of_same s4)).mono m4).append (.cons (Rp.mono m4 r4) .nil)
            · have e : y = ws.length := by omega
              refine .inl ⟨⟨ws, sx3, by omega⟩, hlt, s3, acc3, ha3, ?_⟩
              rw [e, hws, List.take_length] at ra3
              rw [ez]
              exact ra3
      · have e : k = xss.length := by omega
        refine .inl ⟨⟨vs, sq2, by omega⟩, q D acc H2 (s1.free hD) (s1.trans s2) ha ?_⟩
        rw [e, List.take_length] at ra
        exact ra
end
end Cz

/-! CzI: an __init__: self at x, its attributes so far; the rule for the def. -/
namespace Cz
open PySem PySem.Spec PyProof.Rows L2
/-! ### data without instances does not look at an instance -/
mutual
def plainT : T → Bool
  | .tup ts => plainTs ts
  | .obj _ _ _ => false
  | _ => true
def plainTs : List T → Bool
  | [] => true
  | t :: ts => plainT t && plainTs ts
end
mutual
theorem Rp.hide {K : PySem.W.Frag} {H : Hp} {x C dx : Addr} {fs : List (Str × V)} (hx : H x = some (.ins C dx fs)) : ∀ {v : V} {t : T}, Rp K H v t → plainT t = true → Rp K (hid H x) v t
  | _, _, .non, _ => .non
  | _, _, .bl b, _ => .bl b
  | _, _, .int i, _ => .int i
  | _, _, .str x, _ => .str x
  | _, _, .tup (a := a) h r, p => by
    refine .tup ?_ (Rps.hide hx r (by simpa [plainT] using p))
    rcases h with h | h
    · have ne : a ≠ x := fun z => by
        subst z
        rcases h with h | ⟨o, h⟩ <;> rw [hx] at h <;> cases h
      rcases h with h | ⟨o, h⟩
      · exact .inl (.inl (by rw [hid_ne ne]; exact h))
      · exact .inl (.inr ⟨o, by rw [hid_ne ne]; exact h⟩)
    · exact .inr h
  | _, _, .obj _ _ _, p => by simp [plainT] at p
theorem Rps.hide {K : PySem.W.Frag} {H : Hp} {x C dx : Addr} {fs : List (Str × V)} (hx : H x = some (.ins C dx fs)) : ∀ {vs : List V} {ts : List T}, Rps K H vs ts → plainTs ts = true → Rps K (hid H x) vs ts
  | _, _, .nil, _ => .nil
  | _, _, .cons h r, p => by
    simp only [plainTs, Bool.and_eq_true] at p
    exact .cons (Rp.hide hx h p.1) (Rps.hide hx r p.2)
end
/-! ### the state of an __init__ -/
structure Ini (K : PySem.W.Frag) (H0 : Hp) (x dx C : Addr) (Γ : List D) (ns : List Str) (ts : List T) (σ : L2.St) (H : Hp) : Prop where
  keep : ∀ b o, H0 b = some o → b ≠ x → H b = some o
  flds : ∃ fs, H x = some (.ins C dx fs) ∧ fs.map (·.1) = ns ∧ Rps K (hid H x) (fs.map (·.2)) ts
  len : σ.length = Γ.length
  self : σ[0]? = some (some (.ref x))
  self' : Γ[0]? = some (.rf x)
  slots : ∀ i d, i ≠ 0 → Γ[i]? = some d → d = .no ∨ ∃ v t, σ[i]? = some (some v) ∧ d = .t t ∧ Rp K (hid H x) v t
section
variable {K : PySem.W.Frag} {H0 H H' : Hp} {x dx C : Addr} {Γ : List D} {ns : List Str} {ts : List T} {σ : L2.St}
theorem Ini.env (h : Ini K H0 x dx C Γ ns ts σ H) : EnvD K (hid H x) H σ Γ (fun _ => 0) := env_self h.len h.self h.self' h.slots
theorem Ini.same (h : Ini K H0 x dx C Γ ns ts σ H) (s : Same H H') : Ini K H0 x dx C Γ ns ts σ H' := by
  obtain ⟨fs, e, en, r⟩ := h.flds
  have m : Imm (hid H x) (hid H' x) := Imm.of_same (hid_mono fun b o e _ => s b o e)
  refine ⟨fun b o e n => s _ _ (h.keep b o e n), ⟨fs, s _ _ e, en, r.mono m⟩, h.len, h.self, h.self', fun i d z e => ?_⟩
  rcases h.slots i d z e with q | ⟨v, t, q, w, r⟩
  · exact .inl q
  · exact .inr ⟨v, t, q, w, Rp.mono m r⟩
theorem putF_new {f : Str} {y : V} : ∀ {fs : List (Str × V)}, (∀ p ∈ fs, p.1 ≠ f) → putF f y fs = fs ++ [(f, y)]
  | [], _ => rfl
  | (g, z) :: fs, h => by
    have n : g ≠ f := h (g, z) (List.mem_cons_self)
    unfold putF
    rw [if_neg n]
    rw [putF_new fun p hp => h p (List.mem_cons_of_mem _ hp)]
    rfl
theorem Ini.put (h : Ini K H0 x dx C Γ ns ts σ H) {v : V} {y : T} {f : Str} {fs : List (Str × V)} (e : H x = some (.ins C dx fs)) (r : Rp K (hid H x) v y) (hf : ns.all (fun n => !decide (n = f)) = true) : Ini K H0 x dx C Γ (ns ++ [f]) (ts ++ [y]) σ (upd H x (.ins C dx (putF f v fs))) := by
  obtain ⟨fs', e', en, rs⟩ := h.flds
  rw [e] at e'
  cases e'
  have hn : ∀ p ∈ fs, p.1 ≠ f := fun p hp z => by
    have := List.all_eq_true.mp hf p.1 (by rw [← en]; exact List.mem_map_of_mem hp)
    simp [z] at this
  refine ⟨fun b o e n => by rw [upd_ne n]; exact h.keep b o e n, ⟨_, upd_same, ?_, ?_⟩, h.len, h.self, h.self', fun i d z e => ?_⟩
  · rw [putF_new hn, List.map_append, en]
    rfl
  · rw [putF_new hn, List.map_append, hid_upd]
    exact rs.append (.cons r .nil)
  · rw [hid_upd]
    exact h.slots i d z e
theorem Ini.nlen (h : Ini K H0 x dx C Γ ns ts σ H) {fs : List (Str × V)} (e : H x = some (.ins C dx fs)) : fs.length = ns.length := by
  obtain ⟨fs', e', en, rs⟩ := h.flds
  rw [e] at e'
  cases e'
  rw [← en, List.length_map]
/-- self.f = e, e without instances -/
theorem i_fld {E : Ends} {te : TE} {y : T} {f : Str} (h : Ini K H0 x dx C Γ ns ts σ H) (he : Ev K te Γ y) (hp : plainT y = true) (c : Cls K C) (n : NoAttr K C f) (hf : ns.all (fun n => !decide (n = f)) = true) (hl : ns.length < 1000)
    (k : ∀ H', Ini K H0 x dx C Γ (ns ++ [f]) (ts ++ [y]) σ H' → E.nx σ H') : sFld K (tVar 0) te f E σ H :=
  he _ _ σ H _ h.env fun v H1 s r => by
    have h1 := h.same s
    obtain ⟨fs, e, en, rs⟩ := h1.flds
    exact ⟨_, h1.self, x, C, dx, fs, rfl, e, c, n, by rw [h1.nlen e]; exact hl, k _ (h1.put e (Rp.hide e r hp) hf)⟩
/-- self.f = a parameter -/
theorem i_fldV {E : Ends} {i : Nat} {y : T} {f : Str} (h : Ini K H0 x dx C Γ ns ts σ H) (hi : Γ[i]? = some (.t y)) (c : Cls K C) (n : NoAttr K C f) (hf : ns.all (fun n => !decide (n = f)) = true) (hl : ns.length < 1000)
    (k : ∀ H', Ini K H0 x dx C Γ (ns ++ [f]) (ts ++ [y]) σ H' → E.nx σ H') : sFld K (tVar 0) (tVar i) f E σ H := by
  have h0 : i ≠ 0 := fun z => by
    subst z
    rw [h.self'] at hi
    cases hi
  rcases h.slots i _ h0 hi with q | ⟨v, t, q, w, r⟩
  · cases q
  · cases w
    obtain ⟨fs, e, en, rs⟩ := h.flds
    exact ⟨v, q, _, h.self, x, C, dx, fs, rfl, e, c, n, by rw [h.nlen e]; exact hl, k _ (h.put e r hf)⟩
theorem i_do {E : Ends} {te : TE} {y : T} (h : Ini K H0 x dx C Γ ns ts σ H) (he : Ev K te Γ y) (k : ∀ H', Ini K H0 x dx C Γ ns ts σ H' → E.nx σ H') : tDrop te E σ H :=
  he _ _ σ H _ h.env fun v H1 s r => k _ (h.same s)
theorem i_doE {E : Ends} {te : TE} {Ce : Addr} {W : WX} (h : Ini K H0 x dx C Γ ns ts σ H) (he : EvE K W te Γ Ce) (k : ∀ H', Ini K H0 x dx C Γ ns ts σ H' → W (.ref Ce) none σ H') : tDrop te E σ H :=
  he _ _ σ H _ h.env fun H1 s => k _ (h.same s)
end
section
variable {P : Program} {w : World} {K : PySem.W.Frag} {mg : Str → Option Value} {base : Heap}
/-- THE RULE for an __init__ -/
theorem fn_i {qual : Str} {st : Stmt} {f : Addr} {fd : FuncData} {N ps : List Str} {k : Nat} {C : Addr} {R : List D → Rs → Prop} (F : Fun K "__init__" qual st f fd) (S : FnScope N ps (defScope st)) (len : ∀ ds r, R ds r → ds.length + 1 = ps.length) (hds : ∀ ds r, R ds r → ∀ xs, D.l xs ∉ ds)
    (hbody : ∀ (cdv : Value) (A : Around) (outer : List Env) (s : Shared) (H : Hp) (E : XK), Room k (A.deeper (envOfC qual (defScope st) s.heap.objs.size f cdv)) →
      ∃ t, PSs (cxOf (L2.CX P w) P w K mg base N qual (defScope st) f cdv A outer s H E) (defBody st) t ∧ ∀ ds r x dx σ H (D : Ends), R ds r → Ini K H x dx C (startD N (.rf x :: ds)) [] [] σ H →
        (∀ H' ns ts, r = .ok (.t (.obj C ns ts)) → Ini K H x dx C (startD N (.rf x :: ds)) ns ts σ H' → D.nx σ H') → (∀ H' Ce ns ts, r = .er Ce → Ini K H x dx C (startD N (.rf x :: ds)) ns ts σ H' → E (.ref Ce) none H') → t D σ H) : FnOk P w K mg base (L2.CX P w) (k + 1) f fd ps (spI K C R) := by
  refine F.okX S (fun vs H Q E h => ?_) (fun cdv A outer s H vs Q E hr h => ?_)
  · obtain ⟨x, dx, ws, ds, r, rfl, _, hR, ha, _⟩ := h
    rw [List.length_cons, ha.length]
    exact len ds r hR
  obtain ⟨x, dx, ws, ds, r, rfl, hx, hR, ha, q⟩ := h
  obtain ⟨t, ht, hs⟩ := hbody cdv A outer s H E hr
  have e0 := env_start (N := N) ha
  refine ⟨t, ht, hs ds r x dx _ H _ hR ⟨fun b o e _ => e, ⟨[], hx, rfl, .nil⟩, ?_, ?_, rfl, fun i d hi e => ?_⟩ (fun H' ns ts e I => ?_) (fun H' Ce ns ts e I => ?_)⟩
  · have hl := ha.length
    unfold L2.start startD
    simp only [List.length_append, List.length_map, List.length_replicate, List.length_cons]
    omega
  · rfl
  · by_cases z : i < ds.length + 1
    · cases i with
      | zero => exact absurd rfl hi
      | succ j =>
        have e' : ds[j]? = some d := by
          unfold startD at e
          rw [List.cons_append, List.getElem?_cons_succ, List.getElem?_append_left (by omega)] at e
          exact e
        obtain ⟨v, hv, hd⟩ := ha.at' e'
        have hv' : (L2.start N (.ref x :: ws))[j + 1]? = some (some v) := by
          unfold L2.start
          rw [List.map_cons, List.cons_append, List.getElem?_cons_succ, List.getElem?_append_left (by rw [List.length_map, ha.length]; omega), List.getElem?_map, hv]
          rfl
        cases d with
        | no => exact .inl rfl
        | t y => exact .inr ⟨v, y, hv', rfl, hd⟩
        | l xs => exact absurd (List.mem_of_getElem? e') (hds ds r hR xs)
        | own xs => exact absurd e' ha.noown
        | rf a => exact hd.elim
        | ll a => exact hd.elim
    · unfold startD at e
      rw [List.getElem?_append_right (by rw [List.length_cons]; omega), List.getElem?_replicate] at e
      split at e
      · cases e
        exact .inl rfl
      · cases e
  · subst e
    obtain ⟨_, q⟩ := q
    obtain ⟨fs, e, en, rs⟩ := I.flds
    exact q H' fs I.keep e en rs
  · subst e
    exact q H' I.keep
end
/-! ### an own list is only read from now on; the greatest of three -/
section
variable {K : PySem.W.Frag} {Γ : List D} {W : WX} {P : Po}
end
section
variable {K : PySem.W.Frag} {Γ : List D} {W : WX} {P : Po}
theorem ev_isnotB {ta tb : TE} {a b : Bool} (ha : Ev K ta Γ (.bl a)) (hb : Ev K tb Γ (.bl b)) : Ev K (tOp (fun x y H Q => ∃ a b, x = .bl a ∧ y = .bl b ∧ Q (.bl (!decide (a = b))) H) ta tb) Γ (.bl (!decide (a = b))) :=
  ev_op ha hb fun v w H Q r1 r2 q => by
    cases r1
    cases r2
    exact ⟨_, _, rfl, rfl, q _ H (Same.refl H) (.bl _)⟩
end
end Cz

namespace Kx
open PySem PyProof.Rows L2 Cz
/-! ## tables of forms -/
theorem sqnn (a : Int) : 0 ≤ a * a := by
  rcases Int.le_total 0 a with h | h
  · exact Int.mul_nonneg h h
  · exact Int.mul_nonneg_of_nonpos_of_nonpos h h
def okI (x : Int) : Bool := decide (-1000 ≤ x) && decide (x ≤ 1000)
def itemsB (m : Mat) : List Bool := [okI m.a.x, okI m.a.y, okI m.a.z, okI m.b.x, okI m.b.y, okI m.b.z, okI m.c.x, okI m.c.y, okI m.c.z]
def itemsOk (m : Mat) : Bool := (itemsB m).all id
def belowZ (m : Mat) : Bool := decide (m.a.x < 0) && decide (m.a.x * m.b.y - m.a.y * m.a.y > 0)
def formOk (m : Mat) : Bool := itemsOk m && (decide (m = m.tr) && ((decide (-500 ≤ det m) && decide (det m ≤ -1)) && !belowZ m))
def cong (A T : Mat) : Mat := mul T.tr (mul A T)
def Q (A : Mat) (v : Row) : Int := dot v (image A v)
theorem formOk_items {m : Mat} (h : formOk m = true) : itemsOk m = true := by
  simp only [formOk, Bool.and_eq_true] at h
  exact h.1
theorem formOk_sym {m : Mat} (h : formOk m = true) : m = m.tr := by
  simp only [formOk, Bool.and_eq_true, decide_eq_true_eq] at h
  exact h.2.1
theorem formOk_det {m : Mat} (h : formOk m = true) : -500 ≤ det m ∧ det m ≤ -1 := by
  simp only [formOk, Bool.and_eq_true, decide_eq_true_eq] at h
  exact h.2.2.1
theorem formOk_bz {m : Mat} (h : formOk m = true) : belowZ m = false := by
  simp only [formOk, Bool.and_eq_true, Bool.not_eq_true'] at h
  exact h.2.2.2
theorem formOk_of {m : Mat} (h1 : itemsOk m = true) (h2 : m = m.tr) (h3 : -500 ≤ det m ∧ det m ≤ -1) (h4 : belowZ m = false) : formOk m = true := by
  simp only [formOk, Bool.and_eq_true, Bool.not_eq_true', decide_eq_true_eq]
  exact ⟨h1, h2, h3, h4⟩
theorem okI_iff (x : Int) : okI x = true ↔ -1000 ≤ x ∧ x ≤ 1000 := by
  simp only [okI, Bool.and_eq_true, decide_eq_true_eq]
theorem okI_sm {x : Int} (h : okI x = true) : Sm 10 x := by
  have := (okI_iff x).mp h
  unfold Sm
  omega
theorem items_iff (m : Mat) : itemsOk m = true ↔ okI m.a.x = true ∧ okI m.a.y = true ∧ okI m.a.z = true ∧ okI m.b.x = true ∧ okI m.b.y = true ∧ okI m.b.z = true ∧ okI m.c.x = true ∧ okI m.c.y = true ∧ okI m.c.z = true := by
  simp only [itemsOk, itemsB, List.all_cons, List.all_nil, Bool.and_eq_true, Bool.and_true, id]
theorem items_sm {m : Mat} (h : itemsOk m = true) : m.sm 10 := by
  obtain ⟨a, b, c, d, e, f, g, i, j⟩ := (items_iff m).mp h
  exact ⟨⟨okI_sm a, okI_sm b, okI_sm c⟩, ⟨okI_sm d, okI_sm e, okI_sm f⟩, ⟨okI_sm g, okI_sm i, okI_sm j⟩⟩
theorem Q_cong (A T : Mat) (v : Row) : Q (cong A T) v = Q A (image T v) := by
  simp only [Q, cong, image, mul, Mat.tr, dot]; grind
theorem det_tr (m : Mat) : det m.tr = det m := by
  simp only [det, Mat.tr, dot, cross]; grind
theorem det_cong (A T : Mat) : det (cong A T) = det A * (det T * det T) := by
  unfold cong
  rw [det_mul, det_mul, det_tr]; grind
theorem sym_ij {m : Mat} (h : m = m.tr) : m.a.y = m.b.x ∧ m.a.z = m.c.x ∧ m.b.z = m.c.y := by
  obtain ⟨⟨a, b, c⟩, ⟨d, e, f⟩, ⟨g, i, j⟩⟩ := m
  simp only [Mat.tr, Mat.mk.injEq, Row.mk.injEq] at h
  simp only
  omega
theorem Q_above {m : Mat} (h : m = m.tr) (hd : det m < 0) (hb : belowZ m = false) : ∃ v, 0 < Q m v := by
  obtain ⟨h1, h2, h3⟩ := sym_ij h
  simp only [belowZ, Bool.and_eq_false_iff, decide_eq_false_iff_not] at hb
  obtain ⟨⟨a, b, c⟩, ⟨b', d, e⟩, ⟨c', e', f⟩⟩ := m
  simp only at h1 h2 h3 hb
  subst h1 h2 h3
  by_cases ha : 0 < a
  · exact ⟨⟨1, 0, 0⟩, by simp only [Q, image, dot]; omega⟩
  by_cases ha0 : a = 0
  · subst ha0
    by_cases hb0 : b = 0
    · subst hb0
      have hd' : det ⟨⟨0, 0, c⟩, ⟨0, d, e⟩, ⟨c, e, f⟩⟩ = -(c * c * d) := by simp only [det, dot, cross]; grind
      rw [hd'] at hd
      have hdp : 0 < d := by
        by_cases z : 0 < d
        · exact z
        · have : 0 ≤ c * c * (-d) := Int.mul_nonneg (sqnn _) (by omega)
          rw [Int.mul_neg] at this
          omega
      exact ⟨⟨0, 1, 0⟩, by simp only [Q, image, dot]; omega⟩
    · by_cases z : 0 < d
      · exact ⟨⟨0, 1, 0⟩, by simp only [Q, image, dot]; omega⟩
      · refine ⟨⟨b * (1 - d), 1, 0⟩, ?_⟩
        have e1 : Q ⟨⟨0, b, c⟩, ⟨b, d, e⟩, ⟨c, e, f⟩⟩ ⟨b * (1 - d), 1, 0⟩ = 2 * (b * b * (1 - d)) + d := by simp only [Q, image, dot]; grind
        rw [e1]
        have hbb : 1 ≤ b * b := by
          have := sqnn b
          have : b * b ≠ 0 := fun z => by
            rcases Int.mul_eq_zero.mp z with z | z <;> exact hb0 z
          omega
        have : 1 * (1 - d) ≤ b * b * (1 - d) := Int.mul_le_mul_of_nonneg_right hbb (by omega)
        omega
  · have hn : a < 0 := by omega
    have hD : a * d - b * b ≤ 0 := by
      rcases hb with z | z
      · exact absurd hn z
      · omega
    by_cases hD0 : a * d - b * b = 0
    · exfalso
      have e1 : a * det ⟨⟨a, b, c⟩, ⟨b, d, e⟩, ⟨c, e, f⟩⟩ = (a * d - b * b) * (a * f - c * c) - (a * e - b * c) * (a * e - b * c) := by simp only [det, dot, cross]; grind
      rw [hD0, Int.zero_mul] at e1
      have := Int.mul_pos_of_neg_of_neg hn hd
      have := sqnn (a * e - b * c)
      omega
    · refine ⟨⟨-b, a, 0⟩, ?_⟩
      have e1 : Q ⟨⟨a, b, c⟩, ⟨b, d, e⟩, ⟨c, e, f⟩⟩ ⟨-b, a, 0⟩ = a * (a * d - b * b) := by simp only [Q, image, dot]; grind
      rw [e1]
      exact Int.mul_pos_of_neg_of_neg hn (by omega)
/-! last -/
def gI (a b : Int) : Int := ((Nat.gcd a.natAbs b.natAbs : Nat) : Int)
def cmn (g : Int) (r : Row) : Int := gI (gI (gI g r.x) r.y) r.z
def cmnM (m : Mat) : Int := cmn (cmn (cmn (if det m < 0 then -det m else det m) (adj m).a) (adj m).b) (adj m).c
def lastM (m : Mat) : Int := (if det m < 0 then -det m else det m) / cmnM m
def cmnG (g : Int → Int → Int) (x : Int) (r : Row) : Int := g (g (g x r.x) r.y) r.z
theorem gI_dvd (a b : Int) : gI a b ∣ a := by
  have h : ((Nat.gcd a.natAbs b.natAbs : Nat) : Int) ∣ ((a.natAbs : Nat) : Int) := Int.ofNat_dvd.mpr (Nat.gcd_dvd_left _ _)
  exact Int.dvd_natAbs.mp h
theorem cmn_dvd (g : Int) (r : Row) : cmn g r ∣ g := Int.dvd_trans (gI_dvd _ _) (Int.dvd_trans (gI_dvd _ _) (gI_dvd _ _))
theorem cmnM_dvd (m : Mat) : cmnM m ∣ (if det m < 0 then -det m else det m) := Int.dvd_trans (cmn_dvd _ _) (Int.dvd_trans (cmn_dvd _ _) (cmn_dvd _ _))
theorem cmnM_nn (m : Mat) : 0 ≤ cmnM m := Int.natCast_nonneg _
theorem cmnM_pos {m : Mat} (h : det m ≠ 0) : 0 < cmnM m := by
  have h0 := cmnM_nn m
  by_cases z : cmnM m = 0
  · have d := cmnM_dvd m
    rw [z] at d
    have := Int.zero_dvd.mp d
    split at this <;> omega
  · omega
theorem cmnM_le {m : Mat} (h : det m ≠ 0) : cmnM m ≤ (if det m < 0 then -det m else det m) := Int.le_of_dvd (by split <;> omega) (cmnM_dvd m)
theorem bnf {b : Bool} (h : (!b) = true) : b = false := by
  cases b
  · rfl
  · cases h
theorem bnt {b : Bool} (h : (!b) = false) : b = true := by
  cases b
  · cases h
  · rfl
theorem smle {n : Nat} {x y : Int} (h : Sm n x) (h0 : 0 ≤ y) (h1 : y ≤ x) : Sm n y := by
  unfold Sm at *
  have : y.natAbs ≤ x.natAbs := by omega
  exact Nat.lt_of_le_of_lt this h
theorem divok {n : Nat} {i j : Int} (h : 0 < j) (k : Sm n j) (z : n ≤ 9000) : CDivW i j :=
  ⟨h, Nat.lt_of_lt_of_le ((Nat.log2_lt (by omega)).mpr k) z⟩
/-! reflections -/
def hsh (v q : Row) : Mat := ⟨⟨1 - q.x * v.x, 0 - q.y * v.x, 0 - q.z * v.x⟩, ⟨0 - q.x * v.y, 1 - q.y * v.y, 0 - q.z * v.y⟩, ⟨0 - q.x * v.z, 0 - q.y * v.z, 1 - q.z * v.z⟩⟩
end Kx

namespace Kx
open PySem PyProof.Rows L2 Cz
/-! ## what the laws draw: steps, rows, a table of the list, moved -/
/-! the greatest common divisor as the laws find it; roots -/
def rootB (A : Mat) (v : Row) : List Bool := [decide (2 * (image A v).x % Q A v = 0), decide (2 * (image A v).y % Q A v = 0), decide (2 * (image A v).z % Q A v = 0)]
theorem smdiv {n : Nat} {x y : Int} (h : Sm n x) : Sm n (x / y) := by
  unfold Sm at *
  have := Int.natAbs_ediv_le_natAbs x y
  omega
end Kx

/-! CzJ: methods called in a try; lists compared; isinstance of an instance. -/
namespace Cz
open PySem PySem.Spec PyProof.Rows L2
section
variable {X : Cx} {CX : CXT} {k : Nat} {C f : Addr} {fd : FuncData} {ps : List Str} {m : Str} {sp : Sp} {E : L2.St → XK} {o e : Expr} {es : List Expr} {ta : TE} {t : TA} {apos pos : Pos} {pl : Sem Bool}
end
section
variable {K : PySem.W.Frag} {Γ : List D} {W : WX} {P : Po}
/-- lists of plain data -/
structure PlL (xs : List T) : Prop where
  pl : T.pls xs = true
  sh : SeqAt.shaped (.list (T.pys xs)) = true
/-- isinstance of an instance -/
structure InsC (K : PySem.W.Frag) (C : Addr) : Prop where
  cl : Cls K C
  ha : PySem.W.findIn K (.ref C) "__class__" = some (some (.builtin "object.__class__"))
  hn : PySem.W.specialIn K (.builtin "object.__class__") "__get__" = some (some (.builtin "getset_descriptor.__get__"))
  ht : PySem.W.takesIn K (.builtin "object.__class__") = some true
  hm : PySem.W.mroIn K C (.type "object") = some true
end
end Cz

namespace Kx
open PySem PyProof.Rows L2 Cz
/-! ## inverses -/
def sgn (m : Mat) : Mat := ⟨⟨det m, 0, 0⟩, ⟨0, det m, 0⟩, ⟨0, 0, det m⟩⟩
def inv (m : Mat) : Mat := mul (adj m) (sgn m)
theorem smul_mul (k : Int) (m n : Mat) : mul m (smul k n) = smul k (mul m n) := by
  apply Mat.ext' <;> apply Row.ext' <;> (simp only [image, mul, Mat.tr, dot, smul]; grind)
/-! last stays -/
structure DvM (d : Int) (m : Mat) : Prop where
  ax : d ∣ m.a.x
  ay : d ∣ m.a.y
  az : d ∣ m.a.z
  bx : d ∣ m.b.x
  by' : d ∣ m.b.y
  bz : d ∣ m.b.z
  cx : d ∣ m.c.x
  cy : d ∣ m.c.y
  cz : d ∣ m.c.z
theorem gI_dvd_r (a b : Int) : gI a b ∣ b := by
  have h : ((Nat.gcd a.natAbs b.natAbs : Nat) : Int) ∣ ((b.natAbs : Nat) : Int) := Int.ofNat_dvd.mpr (Nat.gcd_dvd_right _ _)
  exact Int.dvd_natAbs.mp h
theorem dvd_gI {d a b : Int} (h1 : d ∣ a) (h2 : d ∣ b) : d ∣ gI a b := by
  have h : d.natAbs ∣ Nat.gcd a.natAbs b.natAbs := Nat.dvd_gcd (Int.natAbs_dvd_natAbs.mpr h1) (Int.natAbs_dvd_natAbs.mpr h2)
  exact Int.natAbs_dvd.mp (Int.ofNat_dvd.mpr h)
theorem cmn_all (g : Int) (r : Row) : cmn g r ∣ r.x ∧ cmn g r ∣ r.y ∧ cmn g r ∣ r.z :=
  ⟨Int.dvd_trans (gI_dvd _ _) (Int.dvd_trans (gI_dvd _ _) (gI_dvd_r _ _)), Int.dvd_trans (gI_dvd _ _) (gI_dvd_r _ _), gI_dvd_r _ _⟩
theorem cmnM_adj (m : Mat) : DvM (cmnM m) (adj m) := by
  have c := cmn_all (cmn (cmn (if det m < 0 then -det m else det m) (adj m).a) (adj m).b) (adj m).c
  have b := cmn_all (cmn (if det m < 0 then -det m else det m) (adj m).a) (adj m).b
  have a := cmn_all (if det m < 0 then -det m else det m) (adj m).a
  have k1 : cmnM m ∣ cmn (cmn (if det m < 0 then -det m else det m) (adj m).a) (adj m).b := cmn_dvd _ _
  have k2 : cmnM m ∣ cmn (if det m < 0 then -det m else det m) (adj m).a := Int.dvd_trans k1 (cmn_dvd _ _)
  exact ⟨Int.dvd_trans k2 a.1, Int.dvd_trans k2 a.2.1, Int.dvd_trans k2 a.2.2, Int.dvd_trans k1 b.1, Int.dvd_trans k1 b.2.1, Int.dvd_trans k1 b.2.2, c.1, c.2.1, c.2.2⟩
end Kx

namespace Kx
open PySem PyProof.Rows L2 Cz
/-! ## for k01: the least d; a row above 0 -/
theorem dvd_mul_gI {N d a b : Int} (h1 : N ∣ d * a) (h2 : N ∣ d * b) : N ∣ d * gI a b := by
  have e : gI (d * a) (d * b) = ((d.natAbs : Nat) : Int) * gI a b := by
    unfold gI
    rw [Int.natAbs_mul, Int.natAbs_mul, Nat.gcd_mul_left]
    exact Int.natCast_mul _ _
  have h := dvd_gI h1 h2
  rw [e] at h
  rcases Int.natAbs_eq d with q | q
  · rw [← q] at h
    exact h
  · have q' : ((d.natAbs : Nat) : Int) = -d := by omega
    rw [q', Int.neg_mul] at h
    exact (Int.dvd_neg).mp h
structure DvD (N d : Int) (m : Mat) : Prop where
  ax : N ∣ d * m.a.x
  ay : N ∣ d * m.a.y
  az : N ∣ d * m.a.z
  bx : N ∣ d * m.b.x
  by' : N ∣ d * m.b.y
  bz : N ∣ d * m.b.z
  cx : N ∣ d * m.c.x
  cy : N ∣ d * m.c.y
  cz : N ∣ d * m.c.z
theorem lastM_mul {m : Mat} (h : det m < 0) : lastM m * cmnM m = -det m := by
  have d := cmnM_dvd m
  have e := Int.ediv_mul_cancel d
  rw [if_pos h] at e
  unfold lastM
  rw [if_pos h]
  exact e
theorem lastM_pos {m : Mat} (h : det m < 0) : 0 < lastM m := by
  have e := lastM_mul h
  have p := cmnM_pos (m := m) (by omega)
  by_cases z : 0 < lastM m
  · exact z
  · have : lastM m * cmnM m ≤ 0 := Int.mul_nonpos_of_nonpos_of_nonneg (by omega) (by omega)
    omega
end Kx

/-! CzJ2: a constructor called in a try. -/
namespace Cz
open PySem PySem.Spec PyProof.Rows L2
section
variable {X : Cx} {CX : CXT} {k : Nat} {C f : Addr} {fd : FuncData} {ps : List Str} {x : Str} {sp : Sp} {E : L2.St → XK} {e : Expr} {es : List Expr} {t : TA} {p pos : Pos}
end
section
variable {K : PySem.W.Frag} {Γ : List D} {W : WX} {P : Po}
end
end Cz

/-! CzE: an instance == a text: False. -/
namespace Cz
open PySem PySem.Spec PyProof.Rows L2
section
variable {X : Cx} {C : Addr}
end
end Cz

/-! CzF: a list is taken apart; an item of a short list. -/
namespace Cz
open PySem PySem.Spec PyProof.Rows L2
section
variable {X : Cx} {pos : Pos}
theorem pgk_lst (K : PySem.W.Frag) {es : List Expr} {k : Nat} {t : TGs} {n : Nat} (hc : X.calm = true) (h : PGs X es t)
    (hn : (assignEach es X.env).length = n := by rfl) (hst : (assignEach es X.env).findIdx? (·.1) = none := by rfl) (hK : X.K = K := by rfl) : PG X (.Tuple es k pos) (gLst K n t) := by
  subst hK
  exact pg_lst hc h hn hst
end
section
variable {K : PySem.W.Frag} {Γ : List D} {W : WX} {P : Po}
end
end Cz

/-! CzG: gcd of three, max of three, tuples by >, a starred item, lists by !=. -/
namespace Cz
open PySem PySem.Spec PyProof.Rows L2
/-! ### gcd(a, b, c) -/
theorem args_gcd3 (a b c : Value) : argsOk "math.gcd" ⟨[a, b, c], []⟩ := by unfold argsOk; kernel_rfl
theorem run_gcd3 (a : Int) (t : Tok) (b : Int) (u : Tok) (c : Int) (x : Tok) :
    Gives (Builtin.«math.gcd» ⟨[.int a t, .int b u, .int c x], []⟩) (.int (((((Nat.gcd 0 a.natAbs).gcd b.natAbs).gcd c.natAbs : Nat) : Int))) :=
  .of_wp fun M A E s Q h => by obtain ⟨hp, g, d, tk, os⟩ := s; wp_walk; exact ⟨_, rfl, h⟩
section
variable {X : Cx}
def rGcd3 : List V → Hp → VK → Prop := fun vs H Q => ∃ a b c : Int, vs = [.int a, .int b, .int c] ∧ Q (.int ((((a.natAbs.gcd b.natAbs).gcd c.natAbs : Nat) : Int))) H
theorem vals3 {x y z : V} {us : List Value} (r : Vals [x, y, z] us) : ∃ u v w, us = [u, v, w] ∧ RelV x u ∧ RelV y v ∧ RelV z w := by
  cases r with
  | cons a r => cases r with
    | cons b r => cases r with
      | cons c r => cases r with
        | nil => exact ⟨_, _, _, rfl, a, b, c⟩
theorem cr_gcd3 : CallR X (.builtin "math.gcd") rGcd3 := by
  intro pins s σ H vs us Q I r h
  obtain ⟨a, b, c, rfl, q⟩ := h
  obtain ⟨u, v, w, rfl, ⟨t1, rfl⟩, ⟨t2, rfl⟩, ⟨t3, rfl⟩⟩ := vals3 r
  have g := run_gcd3 a t1 b t2 c t3
  rw [Nat.gcd_zero_left] at g
  exact PySem.call_function_meets PySem.W.MGF.kind_gcd PySem.W.MGF.plain_gcd PySem.W.MGF.entry_gcd (args_gcd3 _ _ _) g.meets ⟨.int _, H, I.tok _, ⟨_, rfl⟩, q⟩
/-! ### max(a, b, c) -/
/-! ### t > u, tuples of ints -/
theorem pak_star (K : PySem.W.Frag) {e : Expr} {es : List Expr} {te : TE} {t : TA} {p : Pos} (he : PE X e te) (hr : PA X es t) (hs : starEach (.Starred e p :: es) X.env = (true, eval e X.env) :: starEach es X.env := by rfl) (hK : X.K = K := by rfl) : PA X (.Starred e p :: es) (StX.tStar K te t) := by subst hK; exact StX.pa_star he hr hs
end
section
variable {K : PySem.W.Frag} {Γ : List D} {W : WX} {P : Po} {ta tb tc : TE}
theorem ev_gcd3 {a b c : Int} (ha : Ev K ta Γ (.int a)) (hb : Ev K tb Γ (.int b)) (hc : Ev K tc Γ (.int c)) : Ev K (tCB rGcd3 (tCons ta (tCons tb (tCons tc tNil)))) Γ (.int ((((a.natAbs.gcd b.natAbs).gcd c.natAbs : Nat) : Int))) := fun H0 A σ H Q E q =>
  ha H0 A σ H _ E fun v H1 s1 r1 => hb H0 A σ H1 _ (E.mono s1) fun w H2 s2 r2 => hc H0 A σ H2 _ (E.mono (s1.trans s2)) fun u H3 s3 r3 => by
    cases r1
    cases r2
    cases r3
    exact ⟨a, b, c, rfl, q _ H3 (s1.trans (s2.trans s3)) (.int _)⟩
/-- a starred item: a tuple of data -/
theorem args_of_rps {H : Hp} : ∀ {vs : List V} {ts : List T}, Rps K H vs ts → Args K H vs (ts.map D.t)
  | _, _, .nil => .nil
  | _, _, .cons h r => .cons h (args_of_rps r)
theorem eva_star {tr : TA} {xs : List T} {ds : List D} (ha : Ev K ta Γ (.tup xs)) (hr : EvA K tr Γ ds) : EvA K (StX.tStar K ta tr) Γ (xs.map D.t ++ ds) := fun H0 A σ H Q E q =>
  ha H0 A σ H _ E fun v H1 s1 r1 => by
    cases r1 with
    | tup sq r =>
      exact ⟨_, _, rfl, .inl sq, hr H0 A σ H1 _ (E.mono s1) fun ys H2 s2 r2 => q _ H2 (s1.trans s2) ((args_of_rps (r.mono (Imm.of_same s2))).append r2)⟩
theorem evt_star {tr : TA} {xs ys : List T} (ha : Ev K ta Γ (.tup xs)) (hr : EvTs K tr Γ ys) : EvTs K (StX.tStar K ta tr) Γ (xs ++ ys) := by
  unfold EvTs at *
  rw [List.map_append]
  exact eva_star ha hr
/-- lists of plain data by != -/
theorem ev_neL {xs ys : List T} (px : PlL xs) (py : PlL ys) (ha : EvL K ta Γ xs) (hb : EvL K tb Γ ys) : Ev K (tOp (rNeD K) ta tb) Γ (.bl (!PyData.eqv (.list (T.pys xs)) (.list (T.pys ys)))) := fun H0 A σ H Q E q =>
  ha H0 A σ H _ E fun a vs H1 s1 q1 r1 => hb H0 A σ H1 _ (E.mono s1) fun b ws H2 s2 q2 r2 =>
    ⟨_, _, .lst (s2.seq q1) (Rps.dps (r1.mono (Imm.of_same s2)) px.pl), .lst q2 (Rps.dps r2 py.pl), px.sh, py.sh, q _ H2 (s1.trans s2) (.bl _)⟩
end
end Cz

namespace Kx
open PySem PyProof.Rows L2 Cz
/-! ## the laws' gcd loop gives the gcd -/
structure Gq (g : Nat) (p : Int × Int) : Prop where
  h1 : 0 ≤ p.1
  h2 : 0 ≤ p.2
  g : p.1.natAbs.gcd p.2.natAbs = g
def bareN (v : Row) : Nat := (v.x.natAbs.gcd v.y.natAbs).gcd v.z.natAbs
/-- a root as the program asks it -/
def rootP (A : Mat) (v : Row) : Bool := decide ((bareN v : Int) = 1) && (decide (0 < Q A v) && (rootB A v).all id)
structure RootS (A : Mat) (v : Row) : Prop where
  bare : bareN v = 1
  pos : 0 < Q A v
  dx : Q A v ∣ 2 * (image A v).x
  dy : Q A v ∣ 2 * (image A v).y
  dz : Q A v ∣ 2 * (image A v).z
theorem rootP_iff {A : Mat} {v : Row} : rootP A v = true ↔ RootS A v := by
  unfold rootP rootB
  simp only [Bool.and_eq_true, decide_eq_true_eq, List.all_cons, List.all_nil, id, Bool.and_true]
  constructor
  · rintro ⟨h1, h2, h3, h4, h5⟩
    exact ⟨by omega, h2, Int.dvd_of_emod_eq_zero h3, Int.dvd_of_emod_eq_zero h4, Int.dvd_of_emod_eq_zero h5⟩
  · rintro ⟨h1, h2, h3, h4, h5⟩
    exact ⟨by omega, h2, Int.emod_eq_zero_of_dvd h3, Int.emod_eq_zero_of_dvd h4, Int.emod_eq_zero_of_dvd h5⟩
/-! ## what kind of data is a row -/
def wholeB : T → Bool
  | .int _ => true
  | _ => false
def rowB : T → Bool
  | .tup xs => decide ((xs.length : Int) = 3) && xs.all wholeB
  | _ => false
def rtT (A : Mat) : T → Bool
  | .tup [.int a, .int b, .int c] => rootP A ⟨a, b, c⟩
  | _ => false
theorem rowB_row {x : T} (h : rowB x = true) : ∃ v : Row, x = row v := by
  cases x with
  | tup xs =>
    simp only [rowB, Bool.and_eq_true, decide_eq_true_eq] at h
    obtain ⟨h1, h2⟩ := h
    match xs, h1, h2 with
    | [a, b, c], _, h2 =>
      simp only [List.all_cons, List.all_nil, Bool.and_eq_true, Bool.and_true] at h2
      obtain ⟨ha, hb, hc⟩ := h2
      cases a <;> try cases ha
      cases b <;> try cases hb
      cases c <;> try cases hc
      exact ⟨⟨_, _, _⟩, rfl⟩
    | [], h1, _ => simp at h1
    | [_], h1, _ => simp at h1
    | [_, _], h1, _ => simp at h1
    | _ :: _ :: _ :: _ :: xs, h1, _ => simp at h1; omega
  | non => cases h
  | bl b => cases h
  | int i => cases h
  | str x => cases h
  | obj _ _ _ => cases h
theorem rtT_not {A : Mat} {x : T} (h : rowB x = false) : rtT A x = false := by
  unfold rtT
  split
  · simp [rowB, wholeB] at h
  · rfl
/-- plain data of a known kind; a row is not too great -/
structure OkX (x : T) : Prop where
  ty : tyT x ≠ none
  sm : ∀ v, x = row v → v.sm 1000
theorem okx_row {v : Row} (h : v.sm 1000) : OkX (row v) := ⟨(fun z => nomatch z), fun w e => by
  obtain ⟨a, b, c⟩ := v
  obtain ⟨d, e', f⟩ := w
  simp only [T.tup.injEq, List.cons.injEq, T.int.injEq, and_true] at e
  obtain ⟨rfl, rfl, rfl⟩ := e
  exact h⟩
/-! ## ranges -/
def rngI (lo : Int) (n : Nat) : List Int := (List.range n).map fun i : Nat => lo + (i : Int)
theorem rngI_len (lo : Int) (n : Nat) : (rngI lo n).length = n := by unfold rngI; rw [List.length_map, List.length_range]
theorem rngI_at {lo : Int} {n i : Nat} (h : i < n) : (rngI lo n)[i]? = some (lo + (i : Int)) := by unfold rngI; rw [List.getElem?_map, List.getElem?_range h]; rfl
theorem rngI_mem {lo : Int} {n : Nat} {x : Int} : x ∈ rngI lo n ↔ lo ≤ x ∧ x < lo + n := by
  unfold rngI
  rw [List.mem_map]
  constructor
  · rintro ⟨i, hi, rfl⟩
    have := List.mem_range.mp hi
    omega
  · rintro ⟨h1, h2⟩
    exact ⟨(x - lo).toNat, List.mem_range.mpr (by omega), by omega⟩
theorem rngI_take {lo : Int} {n i : Nat} (h : i < n) : (rngI lo n).take (i + 1) = (rngI lo n).take i ++ [lo + (i : Int)] := take_snoc (rngI_at h)
theorem rngI_all {lo : Int} {n : Nat} : (rngI lo n).take n = rngI lo n := List.take_of_length_le (Nat.le_of_eq (rngI_len lo n))
/-! ## boxes -/
/-! ## the first row inside -/
end Kx
namespace Cz
open PySem PyProof.Rows L2 Kx
section
variable {K : PySem.W.Frag} {Γ : List D} {W : WX} {P : Po} {g : TG} {tb : TS}
/-- [v for v in rows if p v] -/
theorem keptN_rows {c : Nat → Bool} {f : Nat → T} {rs : List Row} {p : Row → Bool} (h : ∀ i r, rs[i]? = some r → c i = p r ∧ f i = row r) : keptN c f (rs.map row).length = (rs.filter p).map row := by
  have e : ∀ n, n ≤ rs.length → keptN c f n = ((rs.take n).filter p).map row := fun n => by
    induction n with
    | zero => intro _; rfl
    | succ n ih =>
      intro hn
      have hx : rs[n]? = some rs[n] := List.getElem?_eq_getElem hn
      obtain ⟨e1, e2⟩ := h n _ hx
      rw [keptN_succ, ih (by omega), take_snoc hx, List.filter_append, List.map_append, e1, e2]
      by_cases e : p rs[n] = true
      · rw [if_pos e]; simp [e]
      · rw [if_neg e]; simp [e]
  rw [List.length_map, e _ (Nat.le_refl _), List.take_length]
theorem evf_rows {tl te : TE} {tt : TT} {i : Nat} {rs : List Row} (p : Row → Bool) (hl : EvL K tl Γ (rs.map row)) (z : rs.length < 1000000)
    (h : ∀ r, r ∈ rs → EvB K tt ((wipeD Γ [i]).set i (.t (row r))) (p r) ∧ Ev K te ((wipeD Γ [i]).set i (.t (row r))) (row r)) : EvF K (tLc (iList K tl) (gName i) tt te [i]) Γ ((rs.filter p).map row) :=
  evf_eq (evf_compL (fun j => p (rs.getD j ⟨0, 0, 0⟩)) (fun j => row (rs.getD j ⟨0, 0, 0⟩)) hl (by rw [List.length_map]; exact z) fun j x hx => by
    rw [List.getElem?_map] at hx
    obtain ⟨r, hr, rfl⟩ := Option.map_eq_some_iff.mp hx
    have e : rs.getD j ⟨0, 0, 0⟩ = r := by simp [List.getD, hr]
    rw [e]
    obtain ⟨h1, h2⟩ := h r (List.mem_of_getElem? hr)
    exact ct1 h1 fun _ => h2) (keptN_rows fun j r hr => by
    have e : rs.getD j ⟨0, 0, 0⟩ = r := by simp [List.getD, hr]
    rw [e]
    exact ⟨rfl, rfl⟩)
end
end Cz

namespace Kx
open PySem PyProof.Rows L2 Cz
/-! ## outward roots -/
theorem dot_symm {A : Mat} (h : A = A.tr) (v w : Row) : dot v (image A w) = dot w (image A v) := by
  obtain ⟨h1, h2, h3⟩ := sym_ij h
  simp only [dot, image, h1, h2, h3]
  grind
def outN (A : Mat) (p v : Row) : List Int := [dot v (image A p), (image A v).x, (image A v).y, (image A v).z]
def outL (A : Mat) (p v : Row) : List Int := (outN A p v).filter fun n => !decide (n = 0)
def outB (A : Mat) (p v : Row) : Bool := decide ((outL A p v).getD 0 0 < 0)
theorem outL_ne {A : Mat} {p v : Row} (h : 0 < Q A v) : 0 < (outL A p v).length := by
  unfold outL outN
  by_cases h1 : (image A v).x = 0
  · by_cases h2 : (image A v).y = 0
    · by_cases h3 : (image A v).z = 0
      · have : Q A v = 0 := by
          unfold Q dot
          rw [h1, h2, h3]
          omega
        omega
      · exact List.length_pos_of_mem (a := (image A v).z) (List.mem_filter.mpr ⟨by simp, by simp [h3]⟩)
    · exact List.length_pos_of_mem (a := (image A v).y) (List.mem_filter.mpr ⟨by simp, by simp [h2]⟩)
  · exact List.length_pos_of_mem (a := (image A v).x) (List.mem_filter.mpr ⟨by simp, by simp [h1]⟩)
/-- the first that is not 0, as nested choices -/
theorem out4 (a b c d : Int) : (([a, b, c, d] : List Int).filter fun n => !decide (n = 0)).getD 0 0 = if a ≠ 0 then a else if b ≠ 0 then b else if c ≠ 0 then c else d := by
  by_cases ha : a = 0
  · by_cases hb : b = 0
    · by_cases hc : c = 0
      · by_cases hd : d = 0 <;> simp [ha, hb, hc, hd]
      · simp [ha, hb, hc]
    · simp [ha, hb]
  · simp [ha]
end Kx
namespace Cz
open PySem PyProof.Rows L2 Kx
section
variable {K : PySem.W.Frag} {Γ : List D} {W : WX} {P : Po}
/-- [n for n in ns if p n] -/
theorem evf_ints {tl te : TE} {tt : TT} {i : Nat} {ns : List Int} (p : Int → Bool) (hl : EvL K tl Γ (intsT ns)) (z : ns.length < 1000000)
    (h : ∀ n, n ∈ ns → EvB K tt ((wipeD Γ [i]).set i (.t (.int n))) (p n) ∧ Ev K te ((wipeD Γ [i]).set i (.t (.int n))) (.int n)) : EvF K (tLc (iList K tl) (gName i) tt te [i]) Γ (intsT (ns.filter p)) := by
  have e := evf_compL (fun j => p (ns.getD j 0)) (fun j => .int (ns.getD j 0)) hl (by rw [intsT_len]; exact z) fun j x hx => by
    obtain ⟨n, hn, rfl⟩ := intsT_at' hx
    have e : ns.getD j 0 = n := by simp [List.getD, hn]
    rw [e]
    obtain ⟨h1, h2⟩ := h n (List.mem_of_getElem? hn)
    exact ct1 h1 fun _ => h2
  refine evf_eq e ?_
  have q : ∀ n, n ≤ ns.length → keptN (fun j => p (ns.getD j 0)) (fun j => .int (ns.getD j 0)) n = intsT ((ns.take n).filter p) := fun n => by
    induction n with
    | zero => intro _; rfl
    | succ n ih =>
      intro hn
      have hx : ns[n]? = some ns[n] := List.getElem?_eq_getElem hn
      have e1 : ns.getD n 0 = ns[n] := by simp [List.getD, hx]
      rw [keptN_succ, ih (by omega), take_snoc hx, List.filter_append, e1]
      unfold intsT
      rw [List.map_append]
      by_cases e : p ns[n] = true
      · rw [if_pos e]; simp [e]
      · rw [if_neg e]; simp [e]
  rw [intsT_len, q _ (Nat.le_refl _), List.take_length]
theorem dr_head {ns : List Int} (h : 0 < ns.length) : L2.atI (intsT ns) 0 = some (.int (ns.getD 0 0)) := dr_at (j := 0) rfl h
end
end Cz

namespace Cz
open PySem PySem.Spec PyProof.Rows L2 Kx
section
variable {K : PySem.W.Frag} {Γ : List D} {W : WX} {P : Po} {ta tb tc : TE}
/-! ### isinstance of a list -/
/-! ### a display of data and new lists, walked -/
inductive ArgsN (K : PySem.W.Frag) (H H' : Hp) : List V → List D → Prop
  | nil : ArgsN K H H' [] []
  | t {v : V} {x : T} {vs : List V} {ds : List D} : Rp K H' v x → ArgsN K H H' vs ds → ArgsN K H H' (v :: vs) (.t x :: ds)
  | l {b : Addr} {ws : List V} {xs : List T} {vs : List V} {ds : List D} : H b = none → H' b = some (.lst ws) → Rps K H' ws xs → ArgsN K H H' vs ds → ArgsN K H H' (.ref b :: vs) (.l xs :: ds)
/-! ### [n for n in range(a, b) if p n] -/
theorem evf_rng {te : TE} {tt : TT} {i : Nat} {a n : Int} (p : Int → Bool) (ha : Ev K ta Γ (.int a)) (hn : Ev K tc Γ (.int n)) (z : (n - a).toNat < 1000000 ∧ -4611686018427387904 ≤ a ∧ a < 4611686018427387904 ∧ -4611686018427387904 ≤ n ∧ n < 4611686018427387904)
    (h : ∀ x, a ≤ x → x < n → EvB K tt ((wipeD Γ [i]).set i (.t (.int x))) (p x) ∧ Ev K te ((wipeD Γ [i]).set i (.t (.int x))) (.int x)) : EvF K (tLc (iRng2 (tCons ta (tCons tc tNil))) (gName i) tt te [i]) Γ (intsT ((rngI a (n - a).toNat).filter p)) := by
  have e := evf_compR2 (g := gName i) (tt := tt) (te := te) (ks := [i]) (fun j => p (a + (j : Int))) (fun j => .int (a + (j : Int))) ha hn z fun j hj => by
    obtain ⟨h1, h2⟩ := h (a + (j : Int)) (by omega) (by omega)
    exact ct1 h1 fun _ => h2
  refine evf_eq e ?_
  have q : ∀ k, k ≤ (n - a).toNat → keptN (fun j => p (a + (j : Int))) (fun j => .int (a + (j : Int))) k = intsT (((rngI a (n - a).toNat).take k).filter p) := fun k => by
    induction k with
    | zero => intro _; rfl
    | succ k ih =>
      intro hk
      rw [keptN_succ, ih (by omega), rngI_take (by omega : k < (n - a).toNat), List.filter_append]
      unfold intsT
      rw [List.map_append]
      by_cases e : p (a + (k : Int)) = true
      · rw [if_pos e]; simp [e]
      · rw [if_neg e]; simp [e]
  rw [q _ (Nat.le_refl _), rngI_all]
/-! ### lists of ints by ==; an int in a list of ints -/
end
end Cz
namespace Kx
open PySem PyProof.Rows L2 Cz
/-! ## kinds -/
def kindsM (m : Mat) : List Int := (rngI 1 (2 * lastM m + 1 - 1).toNat).filter fun n => decide (2 * lastM m % n = 0)
/-- the norm of a root divides twice last -/
theorem smul_adj_row {A : Mat} (v : Row) : image (adj A) (image A v) = ⟨det A * v.x, det A * v.y, det A * v.z⟩ := by
  rw [← image_mul, adj_mul]
  apply Row.ext' <;> (simp only [image, smul, one, dot]; grind)
theorem rk_aux {l c n dA a1 a2 a3 w u1 u2 u3 x y z : Int} (e : l * c = -dA) (p : 0 < c) (hx : 2 * u1 = n * x) (hy : 2 * u2 = n * y) (hz : 2 * u3 = n * z) (q : c * a1 * u1 + c * a2 * u2 + c * a3 * u3 = dA * w) : n ∣ 2 * l * w := by
  have e2 : c * (a1 * u1 + a2 * u2 + a3 * u3) = c * (-(l * w)) := by
    have e1 : dA = -(l * c) := by omega
    rw [e1] at q
    have l1 : c * (a1 * u1 + a2 * u2 + a3 * u3) = c * a1 * u1 + c * a2 * u2 + c * a3 * u3 := by
      rw [Int.mul_add, Int.mul_add, Int.mul_assoc, Int.mul_assoc, Int.mul_assoc]
    have l2 : -(l * c) * w = c * (-(l * w)) := by
      rw [Int.neg_mul, Int.mul_neg, Int.mul_comm l c, Int.mul_assoc]
    rw [l1, q, l2]
  have e3 : a1 * u1 + a2 * u2 + a3 * u3 = -(l * w) := Int.eq_of_mul_eq_mul_left (by omega) e2
  refine ⟨-(a1 * x + a2 * y + a3 * z), ?_⟩
  have e4 : 2 * l * w = -(a1 * (2 * u1) + a2 * (2 * u2) + a3 * (2 * u3)) := by
    have : 2 * l * w = -(2 * -(l * w)) := by rw [Int.mul_neg, Int.neg_neg, Int.mul_assoc]
    rw [this, ← e3, Int.mul_add, Int.mul_add, Int.mul_left_comm, Int.mul_left_comm 2 a2, Int.mul_left_comm 2 a3]
  rw [e4, hx, hy, hz, Int.mul_neg, Int.mul_add, Int.mul_add, Int.mul_left_comm n a1, Int.mul_left_comm n a2, Int.mul_left_comm n a3]
theorem root_kind {A : Mat} {v : Row} (hd : det A < 0) (h : RootS A v) : Q A v ∣ 2 * lastM A := by
  have e := lastM_mul hd
  have p := cmnM_pos (m := A) (by omega)
  obtain ⟨⟨ax, hax⟩, ⟨ay, hay⟩, ⟨az, haz⟩, ⟨bx, hbx⟩, ⟨by', hby⟩, ⟨bz, hbz⟩, ⟨cx, hcx⟩, ⟨cy, hcy⟩, ⟨cz, hcz⟩⟩ := cmnM_adj A
  have s := smul_adj_row (A := A) v
  obtain ⟨hb, hp, ⟨x, hx⟩, ⟨y, hy⟩, ⟨z, hz⟩⟩ := h
  have sx := congrArg Row.x s
  have sy := congrArg Row.y s
  have sz := congrArg Row.z s
  simp only [image, dot] at sx sy sz
  have ix : dot A.a v = (image A v).x := rfl
  have iy : dot A.b v = (image A v).y := rfl
  have iz : dot A.c v = (image A v).z := rfl
  simp only [dot] at ix iy iz
  rw [ix, iy, iz] at sx sy sz
  rw [hax, hay, haz] at sx
  rw [hbx, hby, hbz] at sy
  rw [hcx, hcy, hcz] at sz
  generalize (image A v).x = u1 at *
  generalize (image A v).y = u2 at *
  generalize (image A v).z = u3 at *
  generalize Q A v = n at *
  generalize lastM A = l at *
  generalize cmnM A = c at *
  have d1 := rk_aux e p hx hy hz sx
  have d2 := rk_aux e p hx hy hz sy
  have d3 := rk_aux e p hx hy hz sz
  have hg : n ∣ 2 * l * (bareN v : Int) := by
    have : (bareN v : Int) = gI (gI v.x v.y) v.z := rfl
    rw [this]
    exact dvd_mul_gI (dvd_mul_gI d1 d2) d3
  rw [hb] at hg
  simpa using hg
end Kx

namespace Cz
open PySem PySem.Spec PyProof.Rows L2 Kx
section
variable {K : PySem.W.Frag} {Γ : List D} {W : WX} {P : Po} {ta tb tc te : TE}
end
end Cz
namespace Kx
open PySem PyProof.Rows L2 Cz
/-! ## the first row inside, as the program looks for it -/
/-! the form with x + k z in the place of x -/
end Kx

namespace L2
open PySem PySem.Spec PyProof.Rows
/-- // by a divisor of any sign below 2 ^ 9000 -/
def CDivX (_ j : Int) : Prop := j ≠ 0 ∧ j.natAbs.log2 < 9000
section
variable {X : Cx}
theorem op_fdivX : OpR X (binaryOp .FloorDiv) (rI CDivX fun i j => .int (i.fdiv j)) := opI fun _ _ _ _ _ _ _ hc q => floordiv_int hc.1 q (.inl (PyProof.noPylong_of_log2 hc.2))
end
end L2
namespace Cz
open PySem PySem.Spec PyProof.Rows L2 Kx
section
variable {K : PySem.W.Frag} {Γ : List D} {W : WX} {P : Po} {ta tb tc te : TE}
theorem ev_fdivX {i j : Int} (ha : Ev K ta Γ (.int i)) (hb : Ev K tb Γ (.int j)) (hC : CDivX i j) : Ev K (tOp (rI CDivX fun i j => .int (i.fdiv j)) ta tb) Γ (.int (i.fdiv j)) := ev_rI (f := fun i j => .int (i.fdiv j)) (fun _ _ _ => .int _) hC ha hb
/-- while, by a word and a number that falls -/
theorem sv_while {c : TT} {t : TS} (I : Nat → List D → Prop) (m0 : Nat) (h0 : I m0 Γ)
    (hs : ∀ m G, I m G → ∃ b, EvB K c G b ∧ (b = true → Sv K W t G { P with nx := fun G' => ∃ m', m' < m ∧ I m' G', ct := fun G' => ∃ m', m' < m ∧ I m' G', bk := P.nx }) ∧ (b = false → P.nx G)) :
    Sv K W (tWhile c t) Γ P := fun H0 A σ H E hE M => by
  refine ⟨fun m σ H1 => ∃ G B, I m G ∧ EnvD K H0 H1 σ G B ∧ Go Γ A H G B H1, ⟨m0, Γ, A, h0, hE, .of_same (Same.refl H)⟩, ?_⟩
  rintro m σ1 H1 ⟨G, B, iG, eG, gG⟩
  obtain ⟨b, hb, ht, hf⟩ := hs m G iG
  refine hb H0 B σ1 H1 _ eG fun H2 s2 => ?_
  have e2 := eG.mono s2
  have g2 : Go Γ A H G B H2 := gG.trans (.of_same s2)
  cases b with
  | true =>
    rw [if_pos rfl]
    refine ⟨fun σ' H' => ∃ m', m' < m ∧ ∃ G B, I m' G ∧ EnvD K H0 H' σ' G B ∧ Go Γ A H G B H', fun σ' H' ⟨m', l, r⟩ => ⟨m', l, r⟩, ?_⟩
    exact ht rfl H0 B σ1 H2 _ e2 (M.turn (I := fun G' => ∃ m', m' < m ∧ I m' G') g2 fun G B σ H' ⟨m', l, p⟩ e g => ⟨m', l, G, B, p, e, g⟩)
  | false =>
    rw [if_neg Bool.false_ne_true]
    exact M.nx G B σ1 H2 (hf rfl) e2 g2
end

/-! ### Euclid's steps -/
/-- a row with another one added so many times -/
def shR (v r : Row) (t : Int) : Row := ⟨v.x + t * r.x, v.y + t * r.y, v.z + t * r.z⟩
def scR (v : Row) (t : Int) : Row := ⟨t * v.x, t * v.y, t * v.z⟩
theorem dot_shR (l v r : Row) (t : Int) : dot l (shR v r t) = dot l v + t * dot l r := by simp only [dot, shR]; grind
theorem dot_scR (l v : Row) (t : Int) : dot l (scR v t) = t * dot l v := by simp only [dot, scR]; grind
structure VR where
  u : Int
  r : Row
def VR.t (a : VR) : T := .tup [.int a.u, row a.r]
def eSt (a b : VR) : VR := ⟨a.u - a.u.fdiv b.u * b.u, shR a.r b.r (-(a.u.fdiv b.u))⟩
def eu : Nat → VR → VR → VR × VR
  | 0, a, b => (a, b)
  | n + 1, a, b => if b.u = 0 then (a, b) else eu n b (eSt a b)
def euc (a b : VR) : VR × VR := eu b.u.natAbs a b
theorem rest_eq (i j : Int) : i - i.fdiv j * j = i.fmod j := by
  have := Int.fmod_add_fdiv_mul i j
  omega
theorem fmod_sign {i j : Int} (h : j ≠ 0) : (0 < j → 0 ≤ i.fmod j ∧ i.fmod j < j) ∧ (j < 0 → j < i.fmod j ∧ i.fmod j ≤ 0) := by
  refine ⟨fun p => ⟨Int.fmod_nonneg_of_pos i p, Int.fmod_lt_of_pos i p⟩, fun p => ?_⟩
  have e := Int.neg_fmod_neg i j
  have h1 := Int.fmod_nonneg_of_pos (-i) (b := -j) (by omega)
  have h2 := Int.fmod_lt_of_pos (-i) (b := -j) (by omega)
  omega
theorem rest_lt {i j : Int} (h : j ≠ 0) : (i - i.fdiv j * j).natAbs < j.natAbs := by
  rw [rest_eq]
  have := fmod_sign (i := i) h
  omega
theorem eu_more : ∀ (n m : Nat) (a b : VR), b.u.natAbs ≤ n → b.u.natAbs ≤ m → eu n a b = eu m a b := by
  intro n
  induction n with
  | zero =>
    intro m a b h _
    have z : b.u = 0 := by omega
    cases m with
    | zero => rfl
    | succ m => exact (if_pos z).symm
  | succ n ih =>
    intro m a b h k
    by_cases z : b.u = 0
    · cases m with
      | zero => exact if_pos z
      | succ m => exact (if_pos z).trans (if_pos z).symm
    · cases m with
      | zero => omega
      | succ m =>
        have l : (eSt a b).u.natAbs < b.u.natAbs := rest_lt z
        exact ((if_neg z).trans (ih m b (eSt a b) (by omega) (by omega))).trans (if_neg z).symm
theorem euc_done {a b : VR} (z : b.u = 0) : euc a b = (a, b) := by
  unfold euc
  rw [show b.u.natAbs = 0 by omega]
  rfl
theorem euc_step {a b : VR} (z : b.u ≠ 0) : euc a b = euc b (eSt a b) := by
  have l : (eSt a b).u.natAbs < b.u.natAbs := rest_lt z
  show eu b.u.natAbs a b = eu _ b (eSt a b)
  rw [eu_more b.u.natAbs (b.u.natAbs + 1) a b (Nat.le_refl _) (by omega)]
  exact (if_neg z).trans (eu_more _ _ _ _ (by omega) (Nat.le_refl _))
/-- what every step of Euclid's keeps, the end keeps -/
theorem euc_ind {P : VR → VR → Prop} (hs : ∀ a b, b.u ≠ 0 → P a b → P b (eSt a b)) : ∀ (n : Nat) (a b : VR), b.u.natAbs ≤ n → P a b → P (euc a b).1 (euc a b).2 ∧ (euc a b).2.u = 0 := by
  intro n
  induction n with
  | zero =>
    intro a b h p
    have z : b.u = 0 := by omega
    rw [euc_done z]
    exact ⟨p, z⟩
  | succ n ih =>
    intro a b h p
    by_cases z : b.u = 0
    · rw [euc_done z]
      exact ⟨p, z⟩
    · rw [euc_step z]
      have l : (eSt a b).u.natAbs < b.u.natAbs := rest_lt z
      exact ih _ _ (by omega) (hs a b z p)
/-! sizes -/
def Row.le (r : Row) (c : Int) : Prop := (-c ≤ r.x ∧ r.x ≤ c) ∧ (-c ≤ r.y ∧ r.y ≤ c) ∧ (-c ≤ r.z ∧ r.z ≤ c)
theorem Row.le.mono {r : Row} {c d : Int} (h : r.le c) (k : c ≤ d) : r.le d := by
  obtain ⟨h1, h2, h3⟩ := h
  unfold Row.le
  omega
theorem mul_abs_le {t x c : Int} (h : -c ≤ x ∧ x ≤ c) : -(t.natAbs * c) ≤ t * x ∧ t * x ≤ t.natAbs * c := by
  obtain ⟨h1, h2⟩ := h
  rcases Int.le_total 0 t with p | p
  · rw [Int.natAbs_of_nonneg p, ← Int.mul_neg]
    exact ⟨Int.mul_le_mul_of_nonneg_left h1 p, Int.mul_le_mul_of_nonneg_left h2 p⟩
  · have e : (t.natAbs : Int) = -t := by omega
    rw [e]
    have a1 := Int.mul_le_mul_of_nonneg_left h1 (show 0 ≤ -t by omega)
    have a2 := Int.mul_le_mul_of_nonneg_left h2 (show 0 ≤ -t by omega)
    have e1 : -t * -c = t * c := by grind
    have e2 : -t * x = -(t * x) := by grind
    have e3 : -t * c = -(t * c) := by grind
    rw [e1, e2] at a1
    rw [e2, e3] at a2
    rw [e3]
    omega
theorem shR_le {v r : Row} {t a b : Int} (hv : v.le a) (hr : r.le b) : (shR v r t).le (a + t.natAbs * b) := by
  obtain ⟨v1, v2, v3⟩ := hv
  obtain ⟨r1, r2, r3⟩ := hr
  have m1 := mul_abs_le (t := t) r1
  have m2 := mul_abs_le (t := t) r2
  have m3 := mul_abs_le (t := t) r3
  unfold Row.le shR
  simp only
  omega
/-- the sizes along Euclid's steps -/
structure EuS (C : Int) (a b : VR) : Prop where
  ex : ∃ A B : Int, 0 ≤ A ∧ 0 ≤ B ∧ A ≤ C ∧ B ≤ C ∧ a.r.le A ∧ b.r.le B ∧ A * b.u.natAbs + B * a.u.natAbs ≤ C
  s : 0 ≤ a.u * b.u
theorem fdiv_same {i j : Int} (h : j ≠ 0) (s : 0 ≤ i * j) : ((i.fdiv j).natAbs : Int) * j.natAbs + (i - i.fdiv j * j).natAbs = i.natAbs ∧ 0 ≤ j * (i - i.fdiv j * j) := by
  rw [rest_eq]
  have e := Int.fmod_add_fdiv_mul i j
  have f := fmod_sign (i := i) h
  rcases Int.lt_or_gt_of_ne h with n | p
  · have f := f.2 n
    have hi : i ≤ 0 := Int.not_lt.1 fun q => absurd (Int.mul_neg_of_pos_of_neg q n) (by omega)
    have hq : 0 ≤ i.fdiv j := by
      rw [← Int.neg_fdiv_neg]
      exact Int.fdiv_nonneg (by omega) (by omega)
    refine ⟨?_, ?_⟩
    · rw [show ((i.fdiv j).natAbs : Int) = i.fdiv j by omega, show (j.natAbs : Int) = -j by omega, show ((i.fmod j).natAbs : Int) = -(i.fmod j) by omega, show (i.natAbs : Int) = -i by omega, Int.mul_neg]
      omega
    · rw [← Int.neg_mul_neg]
      exact Int.mul_nonneg (by omega) (by omega)
  · have f := f.1 p
    have hi : 0 ≤ i := Int.not_lt.1 fun q => absurd (Int.mul_neg_of_neg_of_pos q p) (by omega)
    have hq : 0 ≤ i.fdiv j := Int.fdiv_nonneg (by omega) (by omega)
    refine ⟨?_, Int.mul_nonneg (by omega) (by omega)⟩
    rw [show ((i.fdiv j).natAbs : Int) = i.fdiv j by omega, show (j.natAbs : Int) = j by omega, show ((i.fmod j).natAbs : Int) = i.fmod j by omega, show (i.natAbs : Int) = i by omega]
    omega
theorem fdiv_any {i j : Int} (h : j ≠ 0) : ((i.fdiv j).natAbs : Int) * j.natAbs + (i - i.fdiv j * j).natAbs ≤ i.natAbs + 2 * j.natAbs ∧ 0 ≤ j * (i - i.fdiv j * j) := by
  have e := Int.fmod_add_fdiv_mul i j
  have f := fmod_sign (i := i) h
  have a : ((i.fdiv j).natAbs : Int) * j.natAbs = (i.fdiv j * j).natAbs := by rw [Int.natAbs_mul]; rfl
  rw [rest_eq, a]
  refine ⟨by omega, ?_⟩
  rcases Int.lt_or_gt_of_ne h with n | p
  · rw [← Int.neg_mul_neg]
    exact Int.mul_nonneg (by omega) (by omega)
  · exact Int.mul_nonneg (by omega) (by omega)
theorem eus_next {C A B q : Int} {a b : VR} (z : b.u ≠ 0) (hq : (a.u.fdiv b.u).natAbs = q) (hA : 0 ≤ A) (hB : 0 ≤ B) (bC : B ≤ C) (ra : a.r.le A) (rb : b.r.le B) (h : A * b.u.natAbs + B * (q * b.u.natAbs + (eSt a b).u.natAbs) ≤ C) (s : 0 ≤ b.u * (eSt a b).u) : EuS C b (eSt a b) := by
  have q0 : 0 ≤ q := by omega
  have e : (A + q * B) * b.u.natAbs + B * (eSt a b).u.natAbs = A * b.u.natAbs + B * (q * b.u.natAbs + (eSt a b).u.natAbs) := by grind
  have n1 : 0 ≤ B * ((eSt a b).u.natAbs : Int) := Int.mul_nonneg hB (by omega)
  have n2 : 0 ≤ A + q * B := Int.add_nonneg hA (Int.mul_nonneg q0 hB)
  have n3 : (A + q * B) * 1 ≤ (A + q * B) * b.u.natAbs := Int.mul_le_mul_of_nonneg_left (by omega) n2
  refine ⟨⟨B, A + q * B, hB, n2, bC, by omega, rb, ?_, by omega⟩, s⟩
  have := shR_le (t := -(a.u.fdiv b.u)) ra rb
  rw [Int.natAbs_neg, hq] at this
  exact this
theorem eus_step {C : Int} {a b : VR} (z : b.u ≠ 0) (h : EuS C a b) : EuS C b (eSt a b) := by
  obtain ⟨⟨A, B, hA, hB, aC, bC, ra, rb, l⟩, s⟩ := h
  obtain ⟨f, g⟩ := fdiv_same z s
  refine eus_next z rfl hA hB bC ra rb ?_ g
  show A * _ + B * (_ + ((a.u - a.u.fdiv b.u * b.u).natAbs : Int)) ≤ C
  rw [f]
  exact l
theorem eus_first {C A B : Int} {a b : VR} (z : b.u ≠ 0) (hA : 0 ≤ A) (hB : 0 ≤ B) (bC : B ≤ C) (ra : a.r.le A) (rb : b.r.le B) (l : A * b.u.natAbs + B * (a.u.natAbs + 2 * b.u.natAbs) ≤ C) : EuS C b (eSt a b) := by
  obtain ⟨f, g⟩ := fdiv_any (i := a.u) z
  refine eus_next z rfl hA hB bC ra rb (Int.le_trans ?_ l) g
  have := Int.mul_le_mul_of_nonneg_left f hB
  show A * _ + B * (_ + ((a.u - a.u.fdiv b.u * b.u).natAbs : Int)) ≤ _
  omega
/-- the rows span the same -/
def In2 (r s v : Row) : Prop := ∃ i j : Int, v = shR (scR r i) s j
theorem in2_step {r s v : Row} {q : Int} : In2 s (shR r s (-q)) v ↔ In2 r s v := by
  constructor
  · rintro ⟨i, j, rfl⟩
    refine ⟨j, i - q * j, ?_⟩
    apply Row.ext' <;> (simp only [shR, scR]; grind)
  · rintro ⟨i, j, rfl⟩
    refine ⟨j + q * i, i, ?_⟩
    apply Row.ext' <;> (simp only [shR, scR]; grind)
theorem euc_in2 {a b : VR} (v : Row) : In2 (euc a b).1.r (euc a b).2.r v ↔ In2 a.r b.r v :=
  (euc_ind (P := fun a' b' => In2 a'.r b'.r v ↔ In2 a.r b.r v) (fun a' b' z h => in2_step.trans h) _ _ _ (Nat.le_refl _) Iff.rfl).1
/-- the numbers stay the dots with a line -/
theorem euc_dot {a b : VR} (l : Row) (ha : a.u = dot l a.r) (hb : b.u = dot l b.r) : (euc a b).1.u = dot l (euc a b).1.r ∧ dot l (euc a b).2.r = 0 := by
  obtain ⟨⟨h1, h2⟩, h3⟩ := euc_ind (P := fun a' b' => a'.u = dot l a'.r ∧ b'.u = dot l b'.r) (fun a' b' z ⟨h, k⟩ => ⟨k, by
    show a'.u - a'.u.fdiv b'.u * b'.u = dot l (shR a'.r b'.r (-(a'.u.fdiv b'.u)))
    rw [dot_shR, ← h, ← k]
    grind⟩) _ a b (Nat.le_refl _) ⟨ha, hb⟩
  exact ⟨h1, h2.symm.trans h3⟩
/-- not all 0 -/
theorem euc_ne {a b : VR} (h : a.u ≠ 0 ∨ b.u ≠ 0) : (euc a b).1.u ≠ 0 := by
  obtain ⟨h1, h2⟩ := euc_ind (P := fun a' b' => a'.u ≠ 0 ∨ b'.u ≠ 0) (fun a' b' z h => .inl z) _ a b (Nat.le_refl _) h
  exact h1.resolve_right fun k => k h2
/-! ### .. in the walk -/
theorem le_of_sm {r : Row} {n : Nat} (h : r.sm n) : r.le (2 ^ n : Nat) := by
  have h1 : r.x.natAbs < 2 ^ n := h.x
  have h2 : r.y.natAbs < 2 ^ n := h.y
  have h3 : r.z.natAbs < 2 ^ n := h.z
  unfold Row.le
  omega
theorem sm_of_le {r : Row} {n : Nat} (h : r.le (2 ^ n : Nat)) : r.sm (n + 1) := by
  unfold Row.le at h
  have e : 2 ^ (n + 1) = 2 ^ n * 2 := Nat.pow_succ _ _
  have p : 0 < 2 ^ n := Nat.two_pow_pos n
  exact ⟨show r.x.natAbs < _ by omega, show r.y.natAbs < _ by omega, show r.z.natAbs < _ by omega⟩
theorem sm_fdiv {n : Nat} {i j : Int} (h : j ≠ 0) (k : Sm n i) : Sm (n + 2) (i.fdiv j) := by
  obtain ⟨f, _⟩ := fdiv_any (i := i) h
  have k' : i.natAbs < 2 ^ n := k
  have p : 0 < 2 ^ n := Nat.two_pow_pos n
  have e : 2 ^ (n + 2) = 2 ^ n * 4 := by rw [Nat.pow_add]
  show (i.fdiv j).natAbs < 2 ^ (n + 2)
  refine Nat.lt_of_not_le fun q => ?_
  have m : ((i.fdiv j).natAbs - 2 : Int) * 1 ≤ ((i.fdiv j).natAbs - 2 : Int) * j.natAbs := Int.mul_le_mul_of_nonneg_left (by omega) (by omega)
  have e2 : ((i.fdiv j).natAbs - 2 : Int) * j.natAbs = (i.fdiv j).natAbs * j.natAbs - 2 * j.natAbs := by grind
  omega
theorem divxok {n : Nat} {i j : Int} (h : j ≠ 0) (k : Sm n j) (z : n ≤ 9000) : CDivX i j :=
  ⟨h, Nat.lt_of_lt_of_le ((Nat.log2_lt (by omega)).mpr k) z⟩
/-- a state of the loop -/
structure EuOk (n k : Nat) (a b a' b' : VR) : Prop where
  e : euc a' b' = euc a b
  l : a'.r.le (2 ^ (n + k + 2) : Nat) ∧ b'.r.le (2 ^ (n + k + 2) : Nat)
  s : Sm k a'.u ∧ Sm k b'.u
  o : b'.u ≠ 0 → EuS (2 ^ (n + k + 2) : Nat) b' (eSt a' b')
theorem EuOk.sizes {n k : Nat} {a b a' b' : VR} (h : EuOk n k a b a' b') : a'.r.sm (n + k + 3) ∧ b'.r.sm (n + k + 3) ∧ Sm k a'.u ∧ Sm k b'.u := ⟨sm_of_le h.l.1, sm_of_le h.l.2, h.s.1, h.s.2⟩
theorem euok_first {n k : Nat} {a b : VR} (ha : a.r.sm n) (hb : b.r.sm n) (ua : Sm k a.u) (ub : Sm k b.u) : EuOk n k a b a b := by
  have la := le_of_sm ha
  have lb := le_of_sm hb
  have e : 2 ^ (n + k + 2) = 2 ^ n * 2 ^ k * 4 := by rw [Nat.pow_add, Nat.pow_add]
  have p : 0 < 2 ^ n := Nat.two_pow_pos n
  have q : 0 < 2 ^ k := Nat.two_pow_pos k
  have ua' : a.u.natAbs < 2 ^ k := ua
  have ub' : b.u.natAbs < 2 ^ k := ub
  have hnk : 2 ^ n * 1 ≤ 2 ^ n * 2 ^ k := Nat.mul_le_mul_left _ q
  refine ⟨rfl, ⟨la.mono (by omega), lb.mono (by omega)⟩, ⟨ua, ub⟩, fun z => ?_⟩
  refine eus_first z (A := (2 ^ n : Nat)) (B := (2 ^ n : Nat)) (by omega) (by omega) (by omega) la lb ?_
  have m1 : 2 ^ n * b.u.natAbs ≤ 2 ^ n * 2 ^ k := Nat.mul_le_mul_left _ (by omega)
  have m2 : 2 ^ n * a.u.natAbs ≤ 2 ^ n * 2 ^ k := Nat.mul_le_mul_left _ (by omega)
  have g : 2 ^ n * b.u.natAbs + 2 ^ n * (a.u.natAbs + 2 * b.u.natAbs) = 3 * (2 ^ n * b.u.natAbs) + 2 ^ n * a.u.natAbs := by grind
  have g2 : 2 ^ n * b.u.natAbs + 2 ^ n * (a.u.natAbs + 2 * b.u.natAbs) ≤ 2 ^ (n + k + 2) := by omega
  exact_mod_cast g2
theorem EuOk.next {n k : Nat} {a b a' b' : VR} (h : EuOk n k a b a' b') (z : b'.u ≠ 0) : EuOk n k a b b' (eSt a' b') := by
  have o := h.o z
  obtain ⟨⟨A, B, _, _, aC, bC, ra, rb, _⟩, _⟩ := id o
  have l : (eSt a' b').u.natAbs < b'.u.natAbs := rest_lt z
  have s : b'.u.natAbs < 2 ^ k := h.s.2
  refine ⟨(euc_step z).symm.trans h.e, ⟨h.l.2, rb.mono bC⟩, ⟨h.s.2, show _ < _ by omega⟩, fun z2 => eus_step z2 o⟩
theorem euc_sm {n k : Nat} {a b : VR} (ha : a.r.sm n) (hb : b.r.sm n) (ua : Sm k a.u) (ub : Sm k b.u) : (euc a b).1.r.sm (n + k + 3) ∧ (euc a b).2.r.sm (n + k + 3) ∧ Sm k (euc a b).1.u := by
  obtain ⟨⟨h1, h2⟩, h3⟩ := euc_ind (P := fun a' b' => EuOk n k a b a' b') (fun a' b' z h => h.next z) _ a b (Nat.le_refl _) (euok_first ha hb ua ub) |> fun h => (⟨⟨h.1, h.2⟩, trivial⟩ : (_ ∧ _) ∧ True)
  have := h1.sizes
  exact ⟨this.1, this.2.1, this.2.2.1⟩
end Cz

namespace Cz
open PySem PySem.Spec PyProof.Rows L2 Kx
section
variable {K : PySem.W.Frag} {Γ : List D} {W : WX} {P : Po}
/-! ### a tuple of data and a new list -/
/-- return (x, [..]) -/
theorem sv_retTL {te tf : TE} {x : T} {xs : List T} (h : Ev K te Γ x) (hf : EvF K tf Γ xs) (hr : P.rt (.ll [[x], xs])) : Sv K W (tRet (tTup (tCons te (tCons tf tNil)))) Γ P := fun H0 A σ H E hE M =>
  h H0 A σ H _ hE fun v H1 s1 r1 => hf H0 A σ H1 _ (hE.mono s1) fun p vs H2 n2 s2 e2 r2 =>
    ⟨(show 2 ≤ sizeLine by decide), fun a ha => M.rt _ _ _ hr ⟨x, xs, a, v, p, vs, rfl, rfl, .of upd_same, (hE.same.trans s1).free n2, (same_upd ha) p _ e2, r2.mono (Imm.of_same (same_upd ha)), Rp.mono (Imm.of_same (s2.trans (same_upd ha))) r1⟩ (hE.same.trans (s1.trans (s2.trans (same_upd ha))))⟩
def EvTL (K : PySem.W.Frag) (t : TE) (Γ : List D) (x : T) (xs : List T) : Prop := ∀ (H0 : Hp) (A : Nat → Addr) (σ : L2.St) (H : Hp) (Q : VK), EnvD K H0 H σ Γ A →
  (∀ a w p vs H', H p = none → Same H H' → SqT K H' a [w, .ref p] → H' p = some (.lst vs) → Rps K H' vs xs → Rp K H' w x → Q (.ref a) H') → t σ H Q
theorem evtl_call {R : List D → D → Prop} {t : TA} {ds : List D} {x : T} {xs : List T} {E : XK} (ha : EvA K t Γ ds) (hp : R ds (.ll [[x], xs])) : EvTL K (tCall (spD K R) [] E t) Γ x xs := fun H0 A σ H Q EE q =>
  ha H0 A σ H _ EE fun vs H1 s1 r1 => ⟨ds, _, hp, by rw [List.append_nil]; exact r1, fun v H2 s2 r2 => by
    obtain ⟨x', xs', a, w, p, ws, e0, rfl, sq, n, e, r, rr⟩ := r2
    cases e0
    exact q a w p ws H2 (s1.free n) (s1.trans s2) sq e r rr⟩
/-- x, (a, b, ..) = what gives a tuple of data and a list -/
theorem sv_asgTL {te : TE} {g1 : TG} {u : TGs} {x : T} {xs : List T} {n : Nat} {G1 G2 : List D} (h : EvTL K te Γ x xs) (h1 : Gd K g1 Γ x G1) (e : xs.length = n) (h2 : Gds K u G1 xs G2) (nx : P.nx G2) :
    Sv K W (tAsg te (gTup K 2 (gCons g1 (gCons (gLst K n u) gNil)))) Γ P := fun H0 A σ H E hE M =>
  h H0 A σ H _ hE fun a w p vs H1 n1 s1 sq e1 r1 r2 =>
    ⟨a, _, rfl, sq, rfl, _, _, rfl, h1 H0 A σ H1 w _ (hE.mono s1) r2 fun σ1 E1 q1 => ⟨_, _, rfl, ⟨p, vs, rfl, .of e1, by rw [r1.length]; exact e, h2 H0 A σ1 H1 vs _ E1 r1 fun σ2 E2 q2 => ⟨rfl, M.nx G2 A σ2 H1 nx E2 ((q1.trans q2).same_then s1)⟩⟩⟩⟩
end

/-! ### a tuple or a list, walked -/
end Cz
namespace L2
open PySem PySem.Spec PyProof.Rows
def iSeq (K : PySem.W.Frag) (tl : TE) : TI := fun σ H R => tl σ H fun x H1 => ∃ a, x = .ref a ∧ (((∃ xs, SqL K H1 a xs) ∧ R (Itl K a) H1) ∨ ((∃ xs, SqT K H1 a xs) ∧ R (Itt K a) H1))
theorem pi_seq {X : Cx} {tg l : Expr} {tl : TE} (hl : PE X l tl) : PI X tg l (iSeq X.K tl) := by
  refine ⟨fun pins s σ H R I h => ?_⟩
  refine thn (hl.run pins s σ H _ I h) fun v s1 ⟨x, H1, I1, r1, q1⟩ => ?_
  obtain ⟨a, e, q1⟩ := q1
  subst e
  cases r1
  rcases q1 with ⟨⟨xs, hq⟩, q⟩ | ⟨⟨xs, hq⟩, q⟩
  · obtain ⟨its, rv, p, hz⟩ := I1.list hq
    refine wpAny_pyIter_list p.isList ?_
    refine ⟨s1.heap.objs.size, [s1.heap.objs.size], _, _, H1, rfl, I1.kept (t' := s1.toks) fun b o e => Heap.get?_push_of_some _ e, turn_list a _, ⟨_, Heap.get?_push_size _ rfl, rfl, rfl⟩, fun b hb => ?_, q⟩
    have e : b = s1.heap.objs.size := by simpa using hb
    subst e
    exact I1.fpOk (Nat.le_refl _) (I1.hok.fresh (Nat.le_refl _))
  · obtain ⟨its, rv, p, hz⟩ := I1.tuple hq
    refine wpAny_pyIter_tuple (show s1.heap.IsTuple a its.toArray from p) ?_
    refine ⟨s1.heap.objs.size, [s1.heap.objs.size], _, _, H1, rfl, I1.kept (t' := s1.toks) fun b o e => Heap.get?_push_of_some _ e, turn_tuple a _, ⟨_, Heap.get?_push_size _ rfl, rfl, rfl⟩, fun b hb => ?_, q⟩
    have e : b = s1.heap.objs.size := by simpa using hb
    subst e
    exact I1.fpOk (Nat.le_refl _) (I1.hok.fresh (Nat.le_refl _))
theorem pki_seq (K : PySem.W.Frag) {X : Cx} {tg l : Expr} {tl : TE} (hl : PE X l tl) (hK : X.K = K := by rfl) : PI X tg l (iSeq K tl) := by subst hK; exact pi_seq hl
end L2
namespace Cz
open PySem PySem.Spec PyProof.Rows L2 Kx
section
variable {K : PySem.W.Frag} {Γ : List D}
theorem evf_seqT {k : Nat} {g : TG} {tt : TT} {te : TE} {vs : List Nat} {ys : List T} (h : EvF K (tLc (iTup K (tVar k)) g tt te vs) Γ ys) : EvF K (tLc (iSeq K (tVar k)) g tt te vs) Γ ys := fun H0 A σ H Q E q => by
  obtain ⟨v, e, a, e1, sq, r⟩ := h H0 A σ H Q E q
  exact ⟨v, e, a, e1, .inr ⟨sq, r⟩⟩
theorem evf_seqL {k : Nat} {g : TG} {tt : TT} {te : TE} {vs : List Nat} {ys : List T} (h : EvF K (tLc (iList K (tVar k)) g tt te vs) Γ ys) : EvF K (tLc (iSeq K (tVar k)) g tt te vs) Γ ys := fun H0 A σ H Q E q => by
  obtain ⟨v, e, a, e1, sq, r⟩ := h H0 A σ H Q E q
  exact ⟨v, e, a, e1, .inl ⟨sq, r⟩⟩
end

/-! ### parted -/
def In3 (r s t v : Row) : Prop := ∃ i j k : Int, v = shR (shR (scR r i) s j) t k
def sgI (x : Int) : Int := if x < 0 then -1 else 1
structure PT4 where
  g : Int
  r : Row
  s : Row
  t : Row
def partM (r s t l : Row) : PT4 :=
  let h1 := euc ⟨dot l r, r⟩ ⟨dot l s, s⟩
  let h2 := euc h1.1 ⟨dot l t, t⟩
  ⟨sgI h2.1.u * h2.1.u, scR h2.1.r (sgI h2.1.u), h1.2.r, h2.2.r⟩
theorem sg_sq (x : Int) : sgI x * sgI x = 1 := by
  unfold sgI
  split <;> rfl
theorem scR_scR (v : Row) (a b : Int) : scR (scR v a) b = scR v (a * b) := by
  apply Row.ext' <;> (simp only [scR]; grind)
theorem shR_swap (v r s : Row) (i j : Int) : shR (shR v r i) s j = shR (shR v s j) r i := by
  apply Row.ext' <;> (simp only [shR]; grind)
theorem in3_of (r s t v : Row) : In3 r s t v ↔ ∃ k w, In2 r s w ∧ v = shR w t k :=
  ⟨fun ⟨i, j, k, h⟩ => ⟨k, _, ⟨i, j, rfl⟩, h⟩, fun ⟨k, w, ⟨i, j, hw⟩, h⟩ => ⟨i, j, k, by rw [h, hw]⟩⟩
theorem in3_congr {r s r' s' t v : Row} (h : ∀ w, In2 r s w ↔ In2 r' s' w) : In3 r s t v ↔ In3 r' s' t v := by
  rw [in3_of, in3_of]
  exact ⟨fun ⟨k, w, a, b⟩ => ⟨k, w, (h w).1 a, b⟩, fun ⟨k, w, a, b⟩ => ⟨k, w, (h w).2 a, b⟩⟩
theorem in3_swap {r s t v : Row} : In3 r s t v ↔ In3 r t s v :=
  ⟨fun ⟨i, j, k, h⟩ => ⟨i, k, j, by rw [h, shR_swap]⟩, fun ⟨i, j, k, h⟩ => ⟨i, k, j, by rw [h, shR_swap]⟩⟩
theorem in2_sg {r s v : Row} (x : Int) : In2 (scR r (sgI x)) s v ↔ In2 r s v := by
  constructor
  · rintro ⟨i, j, h⟩
    exact ⟨sgI x * i, j, by rw [h, scR_scR]⟩
  · rintro ⟨i, j, h⟩
    refine ⟨sgI x * i, j, ?_⟩
    rw [h, scR_scR, ← Int.mul_assoc, sg_sq, Int.one_mul]
theorem part_in3 (r s t l v : Row) : In3 (partM r s t l).r (partM r s t l).s (partM r s t l).t v ↔ In3 r s t v := by
  let h1 := euc ⟨dot l r, r⟩ ⟨dot l s, s⟩
  let h2 := euc h1.1 ⟨dot l t, t⟩
  show In3 (scR h2.1.r (sgI h2.1.u)) h1.2.r h2.2.r v ↔ _
  rw [in3_swap, in3_congr (fun w => in2_sg h2.1.u), in3_congr (r' := h1.1.r) (s' := t) (fun w => euc_in2 (a := h1.1) (b := ⟨dot l t, t⟩) w), in3_swap]
  exact in3_congr fun w => euc_in2 (a := ⟨dot l r, r⟩) (b := ⟨dot l s, s⟩) w
theorem part_dot (r s t l : Row) : dot l (partM r s t l).r = (partM r s t l).g ∧ dot l (partM r s t l).s = 0 ∧ dot l (partM r s t l).t = 0 ∧ 0 ≤ (partM r s t l).g := by
  obtain ⟨a1, a2⟩ := euc_dot (a := ⟨dot l r, r⟩) (b := ⟨dot l s, s⟩) l rfl rfl
  obtain ⟨b1, b2⟩ := euc_dot (a := (euc ⟨dot l r, r⟩ ⟨dot l s, s⟩).1) (b := ⟨dot l t, t⟩) l a1 rfl
  refine ⟨?_, a2, b2, ?_⟩
  · show dot l (scR _ _) = _ * _
    rw [dot_scR, ← b1]
  · show 0 ≤ sgI _ * _
    unfold sgI
    split <;> omega
theorem part_ne {r s t l : Row} (h : dot l r ≠ 0 ∨ dot l s ≠ 0 ∨ dot l t ≠ 0) : 0 < (partM r s t l).g := by
  have k : (euc (euc ⟨dot l r, r⟩ ⟨dot l s, s⟩).1 ⟨dot l t, t⟩).1.u ≠ 0 := by
    apply euc_ne
    rcases h with h | h | h
    · exact .inl (euc_ne (.inl h))
    · exact .inl (euc_ne (.inr h))
    · exact .inr h
  have n := (part_dot r s t l).2.2.2
  have e : (partM r s t l).g ≠ 0 := by
    show sgI _ * _ ≠ 0
    refine Int.mul_ne_zero ?_ k
    unfold sgI
    split <;> decide
  omega
theorem sm_sg (x : Int) : Sm 1 (sgI x) := by
  unfold sgI
  split <;> decide
theorem sm_scR {n k : Nat} {v : Row} {t : Int} (h : v.sm n) (q : Sm k t) : (scR v t).sm (k + n) := ⟨q.mul h.x, q.mul h.y, q.mul h.z⟩
theorem part_sm {n k : Nat} {r s t l : Row} (hr : r.sm n) (hs : s.sm n) (ht : t.sm n) (hl : l.sm k) : (partM r s t l).r.sm (3 * n + 2 * k + 12) ∧ (partM r s t l).s.sm (2 * n + k + 5) ∧ (partM r s t l).t.sm (3 * n + 2 * k + 11) ∧ Sm (n + k + 4) (partM r s t l).g := by
  have d1 : Sm (n + k + 2) (dot l r) := (sm_dot hl hr).mono (by omega)
  have d2 : Sm (n + k + 2) (dot l s) := (sm_dot hl hs).mono (by omega)
  have d3 : Sm (n + k + 2) (dot l t) := (sm_dot hl ht).mono (by omega)
  obtain ⟨a1, a2, a3⟩ := euc_sm (a := ⟨dot l r, r⟩) (b := ⟨dot l s, s⟩) hr hs d1 d2
  obtain ⟨b1, b2, b3⟩ := euc_sm (a := (euc ⟨dot l r, r⟩ ⟨dot l s, s⟩).1) (b := ⟨dot l t, t⟩) (n := n + (n + k + 2) + 3) a1 (ht.mono (by omega)) a3 d3
  exact ⟨(sm_scR b1 (sm_sg _)).mono (by omega), a2.mono (by omega), b2.mono (by omega), ((sm_sg _).mul b3).mono (by omega)⟩

/-! ### shortened -/
section
variable (m : Mat)
def shSw (p : Row × Row) : Row × Row := if Q m p.2 < Q m p.1 then (p.2, p.1) else p
def shT (p : Row × Row) : Int := (2 * dot p.1 (image m p.2) + Q m p.1) / (2 * Q m p.1)
def shNx (p : Row × Row) : Row × Row := (p.1, shR p.2 p.1 (-(shT m p)))
def sho : Nat → Row × Row → Row × Row
  | 0, p => shSw m p
  | n + 1, p => if shT m (shSw m p) = 0 then shSw m p else sho n (shNx m (shSw m p))
def shMu (p : Row × Row) : Nat := (2 * (Q m p.1 + Q m p.2)).toNat + (if 0 < dot p.1 (image m p.2) then 1 else 0)
def short (p : Row × Row) : Row × Row := sho m (shMu m p) p
/-- norms on the plane are above 0 -/
structure PD (p : Row × Row) : Prop where
  a : 0 < Q m p.1
  d : 0 < Q m p.1 * Q m p.2 - dot p.1 (image m p.2) * dot p.1 (image m p.2)
end
theorem sh_numbers {a b c t : Int} (ha : 0 < a) (hac : a ≤ c) (h1 : 2 * a * t ≤ 2 * b + a) (h2 : 2 * b + a < 2 * a * t + 2 * a) (ht : t ≠ 0) :
    c - 2 * t * b + t * t * a < c ∨ (c - 2 * t * b + t * t * a = c ∧ 0 < b ∧ b - t * a ≤ 0) := by
  rcases Int.lt_or_gt_of_ne ht with n | p
  · left
    have e : t * (t * a - 2 * b) < 0 := by
      refine Int.mul_neg_of_neg_of_pos n ?_
      have : 0 ≤ a * (-(t + 1)) := Int.mul_nonneg (by omega) (by omega)
      grind
    grind
  · by_cases t1 : t = 1
    · subst t1
      by_cases q : 2 * b = a
      · right
        refine ⟨by grind, by omega, by omega⟩
      · left
        omega
    · left
      have e : t * (t * a - 2 * b) < 0 := by
        refine Int.mul_neg_of_pos_of_neg p ?_
        have : 0 < a * (t - 1) := Int.mul_pos ha (by omega)
        grind
      grind
end Cz

namespace Cz
open PySem PySem.Spec PyProof.Rows L2 Kx
/-! ### shortened: the numbers -/
section
variable {m : Mat}
theorem q_sh (hm : m = m.tr) (f s : Row) (k : Int) : Q m (shR s f k) = Q m s + 2 * k * dot f (image m s) + k * k * Q m f := by
  have e := dot_symm hm s f
  have h1 : dot (shR s f k) (image m (shR s f k)) = dot s (image m s) + k * dot f (image m s) + k * dot s (image m f) + k * k * dot f (image m f) := by
    simp only [dot, shR, image]; grind
  unfold Q
  rw [h1, e]
  grind
theorem b_sh (f s : Row) (k : Int) : dot f (image m (shR s f k)) = dot f (image m s) + k * Q m f := by
  simp only [dot, shR, image, Q]; grind
theorem q_lin (hm : m = m.tr) (f s : Row) (i j : Int) : Q m (shR (scR f i) s j) = i * i * Q m f + 2 * (i * j) * dot f (image m s) + j * j * Q m s := by
  have e := dot_symm hm s f
  have h1 : dot (shR (scR f i) s j) (image m (shR (scR f i) s j)) = i * i * dot f (image m f) + (i * j) * dot f (image m s) + (i * j) * dot s (image m f) + j * j * dot s (image m s) := by
    simp only [dot, shR, scR, image]; grind
  unfold Q
  rw [h1, e]
  grind
theorem sq_abs {j : Int} : (j.natAbs : Int) ≤ j * j := by
  have e : j * j = (j.natAbs : Int) * j.natAbs := (Int.natAbs_mul_self (a := j)).symm
  rw [e]
  by_cases h : j = 0
  · subst h
    decide
  · have : 1 * (j.natAbs : Int) ≤ j.natAbs * j.natAbs := Int.mul_le_mul_of_nonneg_right (by omega) (by omega)
    omega
theorem coord_num {a b c i j q : Int} (ha : 0 < a) (hd : 0 < a * c - b * b) (e : q = i * i * a + 2 * (i * j) * b + j * j * c) : (j.natAbs : Int) ≤ a * q := by
  have h1 : a * q = (a * i + b * j) * (a * i + b * j) + j * j * (a * c - b * b) := by rw [e]; grind
  have h2 : 0 ≤ (a * i + b * j) * (a * i + b * j) := by
    rcases Int.le_total 0 (a * i + b * j) with p | p
    · exact Int.mul_nonneg p p
    · have := Int.mul_nonneg (show 0 ≤ -(a * i + b * j) by omega) (show 0 ≤ -(a * i + b * j) by omega)
      rwa [Int.neg_mul_neg] at this
  have h3 : j * j * 1 ≤ j * j * (a * c - b * b) := Int.mul_le_mul_of_nonneg_left (by omega) (by have := sq_abs (j := j); omega)
  have := sq_abs (j := j)
  omega
theorem sq_nn (x : Int) : 0 ≤ x * x := by
  have := sq_abs (j := x)
  omega
theorem PD.c {p : Row × Row} (h : PD m p) : 0 < Q m p.2 := by
  have a := h.a
  have d := h.d
  have s := sq_nn (dot p.1 (image m p.2))
  refine Int.not_le.1 fun n => ?_
  have : Q m p.1 * Q m p.2 ≤ 0 := Int.mul_nonpos_of_nonneg_of_nonpos (by omega) n
  omega
theorem PD.swap (hm : m = m.tr) {p : Row × Row} (h : PD m p) : PD m (p.2, p.1) :=
  ⟨h.c, by
    have d := h.d
    show 0 < Q m p.2 * Q m p.1 - dot p.2 (image m p.1) * dot p.2 (image m p.1)
    rw [dot_symm hm p.2 p.1, Int.mul_comm (Q m p.2)]
    exact d⟩
theorem PD.coord (hm : m = m.tr) {p : Row × Row} (h : PD m p) (i j : Int) : (i.natAbs : Int) ≤ Q m p.2 * Q m (shR (scR p.1 i) p.2 j) ∧ (j.natAbs : Int) ≤ Q m p.1 * Q m (shR (scR p.1 i) p.2 j) := by
  have e := q_lin hm p.1 p.2 i j
  refine ⟨?_, coord_num h.a h.d e⟩
  have h2 := h.swap hm
  have d2 := h2.d
  refine coord_num h2.a (b := dot p.2 (image m p.1)) (c := Q m p.1) (i := j) d2 ?_
  rw [e, dot_symm hm p.2 p.1]
  grind
theorem PD.next (hm : m = m.tr) {p : Row × Row} (h : PD m p) : PD m (shNx m p) := by
  refine ⟨h.a, ?_⟩
  have d := h.d
  show 0 < Q m p.1 * Q m (shR p.2 p.1 (-(shT m p))) - dot p.1 (image m (shR p.2 p.1 (-(shT m p)))) * dot p.1 (image m (shR p.2 p.1 (-(shT m p))))
  rw [q_sh hm, b_sh]
  have e : Q m p.1 * (Q m p.2 + 2 * -(shT m p) * dot p.1 (image m p.2) + -(shT m p) * -(shT m p) * Q m p.1) - (dot p.1 (image m p.2) + -(shT m p) * Q m p.1) * (dot p.1 (image m p.2) + -(shT m p) * Q m p.1) = Q m p.1 * Q m p.2 - dot p.1 (image m p.2) * dot p.1 (image m p.2) := by grind
  rw [e]
  exact d
theorem shSw_or (p : Row × Row) : (shSw m p = p ∧ Q m p.1 ≤ Q m p.2) ∨ (shSw m p = (p.2, p.1) ∧ Q m p.2 < Q m p.1) := by
  unfold shSw
  split
  · rename_i h
    exact .inr ⟨rfl, h⟩
  · rename_i h
    exact .inl ⟨rfl, Int.not_lt.1 h⟩
theorem shSw_le (p : Row × Row) : Q m (shSw m p).1 ≤ Q m (shSw m p).2 := by
  rcases shSw_or (m := m) p with ⟨e, h⟩ | ⟨e, h⟩ <;> rw [e]
  · exact h
  · exact Int.le_of_lt h
theorem PD.sw (hm : m = m.tr) {p : Row × Row} (h : PD m p) : PD m (shSw m p) := by
  rcases shSw_or (m := m) p with ⟨e, _⟩ | ⟨e, _⟩ <;> rw [e]
  · exact h
  · exact h.swap hm
theorem mu_sw (hm : m = m.tr) (p : Row × Row) : shMu m (shSw m p) = shMu m p := by
  rcases shSw_or (m := m) p with ⟨e, _⟩ | ⟨e, _⟩ <;> rw [e]
  show (2 * (Q m p.2 + Q m p.1)).toNat + (if 0 < dot p.2 (image m p.1) then 1 else 0) = _
  rw [dot_symm hm p.2 p.1, Int.add_comm (Q m p.2)]
  rfl
theorem shT_bounds {p : Row × Row} (h : PD m p) : 2 * Q m p.1 * shT m p ≤ 2 * dot p.1 (image m p.2) + Q m p.1 ∧ 2 * dot p.1 (image m p.2) + Q m p.1 < 2 * Q m p.1 * shT m p + 2 * Q m p.1 := by
  have a := h.a
  have e := Int.mul_ediv_add_emod (2 * dot p.1 (image m p.2) + Q m p.1) (2 * Q m p.1)
  have n := Int.emod_nonneg (2 * dot p.1 (image m p.2) + Q m p.1) (b := 2 * Q m p.1) (by omega)
  have l := Int.emod_lt_of_pos (2 * dot p.1 (image m p.2) + Q m p.1) (b := 2 * Q m p.1) (by omega)
  unfold shT
  omega
theorem q_next (hm : m = m.tr) (p : Row × Row) : Q m (shNx m p).2 = Q m p.2 - 2 * shT m p * dot p.1 (image m p.2) + shT m p * shT m p * Q m p.1 := by
  show Q m (shR p.2 p.1 (-(shT m p))) = _
  rw [q_sh hm]
  grind
theorem mu_next (hm : m = m.tr) {p : Row × Row} (h : PD m p) (hle : Q m p.1 ≤ Q m p.2) (ht : shT m p ≠ 0) : shMu m (shNx m p) < shMu m p ∧ Q m (shNx m p).2 ≤ Q m p.2 := by
  have a := h.a
  have c := (h.next hm).c
  obtain ⟨h1, h2⟩ := shT_bounds h
  have k := sh_numbers a hle h1 h2 ht
  have e := q_next hm p
  have eb : dot p.1 (image m (shNx m p).2) = dot p.1 (image m p.2) - shT m p * Q m p.1 := by
    show dot p.1 (image m (shR p.2 p.1 (-(shT m p)))) = _
    rw [b_sh]
    grind
  rw [← e] at k
  have e1 : shMu m (shNx m p) = (2 * (Q m p.1 + Q m (shNx m p).2)).toNat + (if 0 < dot p.1 (image m (shNx m p).2) then 1 else 0) := rfl
  have e2 : shMu m p = (2 * (Q m p.1 + Q m p.2)).toNat + (if 0 < dot p.1 (image m p.2) then 1 else 0) := rfl
  rw [e1, e2, eb]
  rcases k with k | ⟨k1, k2, k3⟩
  · refine ⟨?_, by omega⟩
    split <;> split <;> omega
  · refine ⟨?_, by omega⟩
    rw [if_neg (by omega), if_pos k2]
    omega
theorem mu_pos {p : Row × Row} (h : PD m p) : 0 < shMu m p := by
  have a := h.a
  have c := h.c
  show 0 < (2 * (Q m p.1 + Q m p.2)).toNat + _
  omega
theorem sho_more (hm : m = m.tr) : ∀ (n k : Nat) (p : Row × Row), PD m p → shMu m p ≤ n → shMu m p ≤ k → sho m n p = sho m k p := by
  intro n
  induction n with
  | zero =>
    intro k p h l _
    have := mu_pos h
    omega
  | succ n ih =>
    intro k p h l l2
    cases k with
    | zero =>
      have := mu_pos h
      omega
    | succ k =>
      have hs := h.sw hm
      by_cases z : shT m (shSw m p) = 0
      · exact (if_pos z).trans (if_pos z).symm
      · have d := (mu_next hm hs (shSw_le p) z).1
        rw [mu_sw hm] at d
        exact ((if_neg z).trans (ih k _ (hs.next hm) (by omega) (by omega))).trans (if_neg z).symm
theorem short_done (hm : m = m.tr) {p : Row × Row} (h : PD m p) (z : shT m (shSw m p) = 0) : short m p = shSw m p := by
  obtain ⟨n, hn⟩ : ∃ n, shMu m p = n + 1 := ⟨shMu m p - 1, by have := mu_pos h; omega⟩
  unfold short
  rw [hn]
  exact if_pos z
theorem short_step (hm : m = m.tr) {p : Row × Row} (h : PD m p) (z : shT m (shSw m p) ≠ 0) : short m p = short m (shNx m (shSw m p)) := by
  have d := (mu_next hm (h.sw hm) (shSw_le p) z).1
  rw [mu_sw hm] at d
  obtain ⟨n, hn⟩ : ∃ n, shMu m p = n + 1 := ⟨shMu m p - 1, by have := mu_pos h; omega⟩
  unfold short
  rw [hn]
  exact (if_neg z).trans (sho_more hm _ _ _ ((h.sw hm).next hm) (by omega) (Nat.le_refl _))
theorem short_ind (hm : m = m.tr) {P : Row × Row → Prop} (hsw : ∀ p, PD m p → P p → P (shSw m p)) (hnx : ∀ p, PD m p → Q m p.1 ≤ Q m p.2 → shT m p ≠ 0 → P p → P (shNx m p)) :
    ∀ (n : Nat) (p : Row × Row), shMu m p ≤ n → PD m p → P p → P (short m p) ∧ PD m (short m p) ∧ Q m (short m p).1 ≤ Q m (short m p).2 ∧ shT m (short m p) = 0 := by
  intro n
  induction n with
  | zero =>
    intro p l h _
    have := mu_pos h
    omega
  | succ n ih =>
    intro p l h hp
    have hs := h.sw hm
    have h1 := hsw p h hp
    by_cases z : shT m (shSw m p) = 0
    · rw [short_done hm h z]
      exact ⟨h1, hs, shSw_le p, z⟩
    · rw [short_step hm h z]
      have d := (mu_next hm hs (shSw_le p) z).1
      rw [mu_sw hm] at d
      exact ih _ (by omega) (hs.next hm) (hnx _ hs (shSw_le p) z h1)
end
theorem in2_symm {r s v : Row} : In2 r s v ↔ In2 s r v := by
  have e : ∀ (r s : Row) (i j : Int), shR (scR r i) s j = shR (scR s j) r i := fun r s i j => by
    apply Row.ext' <;> (simp only [shR, scR]; grind)
  exact ⟨fun ⟨i, j, h⟩ => ⟨j, i, by rw [h, e]⟩, fun ⟨i, j, h⟩ => ⟨j, i, by rw [h, e]⟩⟩
theorem in2_sw {m : Mat} {p : Row × Row} (v : Row) : In2 (shSw m p).1 (shSw m p).2 v ↔ In2 p.1 p.2 v := by
  rcases shSw_or (m := m) p with ⟨e, _⟩ | ⟨e, _⟩ <;> rw [e]
  exact in2_symm
theorem in2_nx {m : Mat} {p : Row × Row} (v : Row) : In2 (shNx m p).1 (shNx m p).2 v ↔ In2 p.1 p.2 v :=
  in2_step.trans in2_symm
/-- a state of the loop: rows of the first plane, no longer than the first ones -/
structure ShOk (m : Mat) (M : Int) (p q : Row × Row) : Prop where
  pd : PD m q
  e : short m q = short m p
  i : ∀ v, In2 q.1 q.2 v ↔ In2 p.1 p.2 v
  l : Q m q.1 ≤ M ∧ Q m q.2 ≤ M
theorem ShOk.sw {m : Mat} (hm : m = m.tr) {M : Int} {p q : Row × Row} (h : ShOk m M p q) : PD m (shSw m q) ∧ (∀ v, In2 (shSw m q).1 (shSw m q).2 v ↔ In2 p.1 p.2 v) ∧ Q m (shSw m q).1 ≤ M ∧ Q m (shSw m q).2 ≤ M := by
  refine ⟨h.pd.sw hm, fun v => (in2_sw v).trans (h.i v), ?_⟩
  rcases shSw_or (m := m) q with ⟨e, _⟩ | ⟨e, _⟩ <;> rw [e]
  · exact h.l
  · exact ⟨h.l.2, h.l.1⟩
theorem ShOk.next {m : Mat} (hm : m = m.tr) {M : Int} {p q : Row × Row} (h : ShOk m M p q) (z : shT m (shSw m q) ≠ 0) : ShOk m M p (shNx m (shSw m q)) ∧ shMu m (shNx m (shSw m q)) < shMu m q := by
  obtain ⟨a, b, c, d⟩ := h.sw hm
  have k := mu_next hm a (shSw_le q) z
  rw [mu_sw hm] at k
  exact ⟨⟨a.next hm, (short_step hm h.pd z).symm.trans h.e, fun v => (in2_nx v).trans (b v), c, Int.le_trans k.2 d⟩, k.1⟩
theorem in2_self (r s : Row) : In2 r s r ∧ In2 r s s := by
  refine ⟨⟨1, 0, ?_⟩, ⟨0, 1, ?_⟩⟩ <;> (apply Row.ext' <;> (simp only [shR, scR]; grind))
/-- the items of a short row of the plane -/
theorem in2_sm {m : Mat} (hm : m = m.tr) {p : Row × Row} {w : Row} {n k : Nat} (h : PD m p) (h1 : p.1.sm n) (h2 : p.2.sm n) (k1 : Sm k (Q m p.1)) (k2 : Sm k (Q m p.2)) (hw : In2 p.1 p.2 w) (kw : Sm k (Q m w)) : w.sm (n + 2 * k + 2) := by
  obtain ⟨i, j, rfl⟩ := hw
  obtain ⟨c1, c2⟩ := h.coord hm i j
  have b1 : Sm (k + k) (Q m p.2 * Q m (shR (scR p.1 i) p.2 j)) := k2.mul kw
  have b2 : Sm (k + k) (Q m p.1 * Q m (shR (scR p.1 i) p.2 j)) := k1.mul kw
  have s1 : Sm (k + k) i := by
    have : (Q m p.2 * Q m (shR (scR p.1 i) p.2 j)).natAbs < 2 ^ (k + k) := b1
    show i.natAbs < 2 ^ (k + k)
    omega
  have s2 : Sm (k + k) j := by
    have : (Q m p.1 * Q m (shR (scR p.1 i) p.2 j)).natAbs < 2 ^ (k + k) := b2
    show j.natAbs < 2 ^ (k + k)
    omega
  have f : ∀ {x y : Int}, Sm n x → Sm n y → Sm (n + 2 * k + 2) (i * x + j * y) := fun hx hy => ((s1.mul hx).add2 (s2.mul hy)).mono (by omega)
  exact ⟨f h1.x h2.x, f h1.y h2.y, f h1.z h2.z⟩
theorem shok_first {m : Mat} {p : Row × Row} {k : Nat} (h : PD m p) (k1 : Sm k (Q m p.1)) (k2 : Sm k (Q m p.2)) : ShOk m ((2 ^ k : Nat) : Int) p p := by
  have h1 : (Q m p.1).natAbs < 2 ^ k := k1
  have h2 : (Q m p.2).natAbs < 2 ^ k := k2
  exact ⟨h, rfl, fun _ => Iff.rfl, by omega, by omega⟩
theorem sm_pos_le {x : Int} {k : Nat} (h : 0 ≤ x) (l : x ≤ ((2 ^ k : Nat) : Int)) : Sm (k + 1) x := by
  have e : 2 ^ (k + 1) = 2 ^ k * 2 := Nat.pow_succ _ _
  have p : 0 < 2 ^ k := Nat.two_pow_pos k
  show x.natAbs < 2 ^ (k + 1)
  omega
/-- a state but for where the loop ends -/
structure ShS (m : Mat) (M : Int) (p q : Row × Row) : Prop where
  pd : PD m q
  i : ∀ v, In2 q.1 q.2 v ↔ In2 p.1 p.2 v
  l : Q m q.1 ≤ M ∧ Q m q.2 ≤ M
theorem ShOk.s {m : Mat} {M : Int} {p q : Row × Row} (h : ShOk m M p q) : ShS m M p q := ⟨h.pd, h.i, h.l⟩
theorem ShOk.swOk {m : Mat} {M : Int} {p q : Row × Row} (h : ShOk m M p q) (hm : m = m.tr) : ShS m M p (shSw m q) := ⟨(h.sw hm).1, (h.sw hm).2.1, (h.sw hm).2.2⟩
theorem ShS.sizes {m : Mat} {p q : Row × Row} {n k : Nat} (h : ShS m ((2 ^ k : Nat) : Int) p q) (hm : m = m.tr) (hp : PD m p) (h1 : p.1.sm n) (h2 : p.2.sm n) (k1 : Sm k (Q m p.1)) (k2 : Sm k (Q m p.2)) : q.1.sm (n + 2 * (k + 1) + 2) ∧ q.2.sm (n + 2 * (k + 1) + 2) := by
  have a := h.pd.a
  have c := h.pd.c
  have s := in2_self q.1 q.2
  exact ⟨in2_sm hm hp h1 h2 (k1.mono (by omega)) (k2.mono (by omega)) ((h.i _).1 s.1) (sm_pos_le (by omega) h.l.1), in2_sm hm hp h1 h2 (k1.mono (by omega)) (k2.mono (by omega)) ((h.i _).1 s.2) (sm_pos_le (by omega) h.l.2)⟩
theorem ShOk.sizes {m : Mat} {p q : Row × Row} {n k : Nat} (h : ShOk m ((2 ^ k : Nat) : Int) p q) (hm : m = m.tr) (hp : PD m p) (h1 : p.1.sm n) (h2 : p.2.sm n) (k1 : Sm k (Q m p.1)) (k2 : Sm k (Q m p.2)) : q.1.sm (n + 2 * (k + 1) + 2) ∧ q.2.sm (n + 2 * (k + 1) + 2) := h.s.sizes hm hp h1 h2 k1 k2
/-- what is known of the end -/
structure ShEnd (m : Mat) (p q : Row × Row) : Prop where
  pd : PD m q
  i : ∀ v, In2 q.1 q.2 v ↔ In2 p.1 p.2 v
  l : Q m q.1 ≤ Q m q.2
  b : -(Q m q.1) ≤ 2 * dot q.1 (image m q.2) ∧ 2 * dot q.1 (image m q.2) ≤ Q m q.1
theorem short_end {m : Mat} (hm : m = m.tr) {p : Row × Row} (h : PD m p) : ShEnd m p (short m p) := by
  obtain ⟨a, b, c, d⟩ := short_ind hm (P := fun q => ∀ v, In2 q.1 q.2 v ↔ In2 p.1 p.2 v) (fun q _ i v => (in2_sw v).trans (i v)) (fun q _ _ _ i v => (in2_nx v).trans (i v)) _ p (Nat.le_refl _) h fun v => Iff.rfl
  have t := shT_bounds b
  rw [d] at t
  exact ⟨b, a, c, by omega⟩
theorem short_sm {m : Mat} (hm : m = m.tr) {p : Row × Row} {n k : Nat} (h : PD m p) (h1 : p.1.sm n) (h2 : p.2.sm n) (k1 : Sm k (Q m p.1)) (k2 : Sm k (Q m p.2)) : (short m p).1.sm (n + 2 * (k + 1) + 2) ∧ (short m p).2.sm (n + 2 * (k + 1) + 2) := by
  have sw : ∀ q, PD m q → ShS m ((2 ^ k : Nat) : Int) p q → ShS m ((2 ^ k : Nat) : Int) p (shSw m q) := fun q hq i => by
    refine ⟨hq.sw hm, fun v => (in2_sw v).trans (i.i v), ?_⟩
    rcases shSw_or (m := m) q with ⟨e, _⟩ | ⟨e, _⟩ <;> rw [e]
    · exact i.l
    · exact ⟨i.l.2, i.l.1⟩
  exact (short_ind hm (P := fun q => ShS m ((2 ^ k : Nat) : Int) p q) sw (fun q hq hl z i => ⟨hq.next hm, fun v => (in2_nx v).trans (i.i v), i.l.1, Int.le_trans (mu_next hm hq hl z).2 i.l.2⟩) _ p (Nat.le_refl _) h (shok_first h k1 k2).s).1.sizes hm h h1 h2 k1 k2
end Cz

namespace Cz
open PySem PySem.Spec PyProof.Rows L2 Kx
/-! ### math.isqrt -/
def isq (x : Int) : Int := ((Float64.isqrt x.toNat : Nat) : Int)
theorem isq_nn (x : Int) : 0 ≤ isq x := Int.natCast_nonneg _
theorem isq_spec {x : Int} (h : 0 ≤ x) : isq x * isq x ≤ x ∧ x < (isq x + 1) * (isq x + 1) := by
  have s := Float64.isqrt_spec x.toNat
  have e : x = (x.toNat : Int) := (Int.toNat_of_nonneg h).symm
  unfold isq
  generalize Float64.isqrt x.toNat = r at *
  generalize x.toNat = n at *
  subst e
  exact ⟨by exact_mod_cast s.1, by exact_mod_cast s.2⟩
theorem abs_le_isq {x z : Int} (hx : 0 ≤ x) (h : z * z ≤ x) : -(isq x) ≤ z ∧ z ≤ isq x := by
  have s := (isq_spec hx).2
  have n := isq_nn x
  generalize isq x = r at *
  refine ⟨Int.not_lt.1 fun k => ?_, Int.not_lt.1 fun k => ?_⟩
  · have := Int.mul_le_mul (show r + 1 ≤ -z by omega) (show r + 1 ≤ -z by omega) (by omega) (by omega)
    rw [Int.neg_mul_neg] at this
    omega
  · have := Int.mul_le_mul (show r + 1 ≤ z by omega) (show r + 1 ≤ z by omega) (by omega) (by omega)
    omega
theorem sq_le_isq {x z : Int} (hx : 0 ≤ x) (h : -(isq x) ≤ z ∧ z ≤ isq x) : z * z ≤ x := by
  have s := (isq_spec hx).1
  have n := isq_nn x
  generalize isq x = r at *
  have : z * z ≤ r * r := by
    rcases Int.le_total 0 z with p | p
    · exact Int.mul_le_mul h.2 h.2 p n
    · have := Int.mul_le_mul (show -z ≤ r by omega) (show -z ≤ r by omega) (show 0 ≤ -z by omega) n
      rwa [Int.neg_mul_neg] at this
  omega
theorem isq_sq {r : Int} : isq (r * r) = r ∨ isq (r * r) = -r := by
  have h := sq_nn r
  have a := abs_le_isq h (Int.le_refl (r * r))
  have s := (isq_spec h).1
  have n := isq_nn (r * r)
  generalize isq (r * r) = k at *
  have e : k * k - r * r = (k - r) * (k + r) := by grind
  rcases Int.le_total 0 r with p | p
  · left
    refine Int.le_antisymm (Int.not_lt.1 fun l => ?_) a.2
    have : 0 < (k - r) * (k + r) := Int.mul_pos (by omega) (by omega)
    omega
  · right
    refine Int.le_antisymm (Int.not_lt.1 fun l => ?_) (by omega)
    have : 0 < (k - r) * (k + r) := Int.mul_pos (by omega) (by omega)
    omega
def rIsq : List V → Hp → VK → Prop := fun vs H Q => ∃ a : Int, vs = [.int a] ∧ (0 ≤ a ∧ a.toNat.log2 ≤ 13000) ∧ Q (.int (isq a)) H
theorem vals1 {x : V} {us : List Value} (r : Vals [x] us) : ∃ u, us = [u] ∧ RelV x u := by
  cases r with
  | cons a r => cases r with
    | nil => exact ⟨_, rfl, a⟩
section
variable {X : Cx}
theorem cr_isqrt : CallR X (.builtin "math.isqrt") rIsq := by
  intro pins s σ H vs us Q I r h
  obtain ⟨a, rfl, ⟨h0, hl⟩, q⟩ := h
  obtain ⟨u, rfl, ⟨t1, rfl⟩⟩ := vals1 r
  have g := PySem.W.mg_run_isqrt a t1 (by omega) (by omega) (by omega)
  exact PySem.call_function_meets PySem.W.MGF.kind_isqrt PySem.W.MGF.plain_isqrt PySem.W.MGF.entry_isqrt (PySem.W.MGF.args_isqrt _) g.meets ⟨.int _, H, I.tok _, ⟨_, rfl⟩, q⟩
end
section
variable {K : PySem.W.Frag} {Γ : List D} {W : WX} {P : Po} {ta tb : TE}
theorem ev_isqrt {a : Int} {n : Nat} (ha : Ev K ta Γ (.int a)) (h0 : 0 ≤ a) (hs : Sm n a) (hn : n ≤ 13000) : Ev K (tCB rIsq (tCons ta tNil)) Γ (.int (isq a)) := fun H0 A σ H Q E q =>
  ha H0 A σ H _ E fun v H1 s1 r1 => by
    cases r1
    refine ⟨a, rfl, ⟨h0, ?_⟩, q _ H1 s1 (.int _)⟩
    have hs' : a.natAbs < 2 ^ n := hs
    by_cases z : a.toNat = 0
    · rw [z, Nat.log2_zero]
      omega
    · exact Nat.le_of_lt (Nat.lt_of_lt_of_le ((Nat.log2_lt z).2 (Nat.lt_of_le_of_lt (by omega) hs')) hn)
theorem evf_if {t : TT} {c : Bool} {xs : List T} (h : EvB K t Γ c) (k1 : c = true → EvF K ta Γ xs) (k2 : c = false → EvF K tb Γ xs) : EvF K (tIf t ta tb) Γ xs := fun H0 A σ H Q E q => h H0 A σ H _ E fun H1 s => by
  cases c with
  | true => exact iteT (k1 rfl H0 A σ H1 Q (E.mono s) fun p v H2 n s2 e r2 => q p v H2 (s.free n) (s.trans s2) e r2)
  | false => exact iteF (k2 rfl H0 A σ H1 Q (E.mono s) fun p v H2 n s2 e r2 => q p v H2 (s.free n) (s.trans s2) e r2)
end

/-! ### points_on -/
section
variable (a b c d e f : Int)
def ptS : Int := a * c - b * b
def ptM : Int := b * d - a * e
def ptR : Int := ptM a b d e * ptM a b d e + ptS a b c * (d * d - a * f)
def ptW : Int := isq (ptR a b c d e f)
def ptLo : Int := -((ptW a b c d e f - ptM a b d e) / ptS a b c)
def ptHi : Int := (ptW a b c d e f + ptM a b d e) / ptS a b c + 1
def ptQ (y : Int) : Int := (b * y + d) * (b * y + d) - a * (c * y * y + 2 * e * y + f)
def ptHs (y : Int) : List Int := if isq (ptQ a b c d e f y) = 0 then [isq (ptQ a b c d e f y)] else [-(isq (ptQ a b c d e f y)), isq (ptQ a b c d e f y)]
def ptH (y h : Int) : List (Int × Int) := if (h - b * y - d) % a = 0 then [((h - b * y - d) / a, y)] else []
def ptY (y : Int) : List (Int × Int) := if isq (ptQ a b c d e f y) * isq (ptQ a b c d e f y) = ptQ a b c d e f y then (ptHs a b c d e f y).flatMap (ptH a b d y) else []
def ptN : Nat := (ptHi a b c d e f - ptLo a b c d e f).toNat
def pts : List (Int × Int) := if ptR a b c d e f < 0 then [] else (rngI (ptLo a b c d e f) (ptN a b c d e f)).flatMap (ptY a b c d e f)
end
def tup2 (p : Int × Int) : T := .tup [.int p.1, .int p.2]
section
variable {a b c d e f : Int}
theorem ptQ_eq (y : Int) : ptS a b c * ptQ a b c d e f y = ptR a b c d e f - (ptS a b c * y - ptM a b d e) * (ptS a b c * y - ptM a b d e) := by
  unfold ptS ptQ ptR ptM ptS
  grind
theorem pt_range (hs : 0 < ptS a b c) (y : Int) : (ptLo a b c d e f ≤ y ∧ y < ptHi a b c d e f) ↔ (-(ptW a b c d e f) ≤ ptS a b c * y - ptM a b d e ∧ ptS a b c * y - ptM a b d e ≤ ptW a b c d e f) := by
  unfold ptLo ptHi
  generalize ptW a b c d e f = w
  generalize ptM a b d e = m
  generalize ptS a b c = s at *
  have e1 : -((w - m) / s) ≤ y ↔ m - w ≤ s * y := by
    have k : -y ≤ (w - m) / s ↔ -y * s ≤ w - m := Int.le_ediv_iff_mul_le hs
    have g : -y * s = -(s * y) := by grind
    rw [g] at k
    omega
  have e2 : y < (w + m) / s + 1 ↔ s * y ≤ w + m := by
    have k : y ≤ (w + m) / s ↔ y * s ≤ w + m := Int.le_ediv_iff_mul_le hs
    rw [Int.mul_comm] at k
    omega
  rw [e1, e2]
  omega
theorem ptQ_nn (hs : 0 < ptS a b c) (hr : 0 ≤ ptR a b c d e f) {y : Int} (h : ptLo a b c d e f ≤ y ∧ y < ptHi a b c d e f) : 0 ≤ ptQ a b c d e f y := by
  have k := sq_le_isq hr ((pt_range hs y).1 h)
  have e1 := ptQ_eq (a := a) (b := b) (c := c) (d := d) (e := e) (f := f) y
  refine Int.not_lt.1 fun n => ?_
  have := Int.mul_neg_of_pos_of_neg hs n
  omega
theorem pt_eq (x y : Int) : a * (a * x * x + 2 * b * x * y + c * y * y + 2 * d * x + 2 * e * y + f) = (a * x + b * y + d) * (a * x + b * y + d) - ptQ a b c d e f y := by
  unfold ptQ
  grind
/-- just the solutions -/
theorem mem_pts (ha : 0 < a) (hs : 0 < ptS a b c) (x y : Int) : (x, y) ∈ pts a b c d e f ↔ a * x * x + 2 * b * x * y + c * y * y + 2 * d * x + 2 * e * y + f = 0 := by
  have pe := pt_eq (a := a) (b := b) (c := c) (d := d) (e := e) (f := f) x y
  constructor
  · intro h
    unfold pts at h
    split at h
    · cases h
    · obtain ⟨y', hy', h⟩ := List.mem_flatMap.1 h
      unfold ptY at h
      split at h
      · rename_i hr hq
        obtain ⟨k, hk, h⟩ := List.mem_flatMap.1 h
        unfold ptH at h
        split at h
        · rename_i hm
          rw [List.mem_singleton] at h
          cases h
          have ed := Int.mul_ediv_cancel' (Int.dvd_of_emod_eq_zero hm)
          have hk2 : k * k = ptQ a b c d e f y := by
            rw [← hq]
            unfold ptHs at hk
            split at hk
            · rw [List.mem_singleton] at hk
              rw [hk]
            · rcases List.mem_cons.1 hk with hk | hk
              · rw [hk, Int.neg_mul_neg]
              · rw [List.mem_singleton.1 hk]
          have e3 : a * ((k - b * y - d) / a) + b * y + d = k := by omega
          rw [e3, hk2] at pe
          have z : a * (a * ((k - b * y - d) / a) * ((k - b * y - d) / a) + 2 * b * ((k - b * y - d) / a) * y + c * y * y + 2 * d * ((k - b * y - d) / a) + 2 * e * y + f) = 0 := by omega
          exact (Int.mul_eq_zero.1 z).resolve_left (by omega)
        · cases h
      · cases h
  · intro h
    rw [h, Int.mul_zero] at pe
    have hq : ptQ a b c d e f y = (a * x + b * y + d) * (a * x + b * y + d) := by omega
    have nn := sq_nn (a * x + b * y + d)
    have pq := ptQ_eq (a := a) (b := b) (c := c) (d := d) (e := e) (f := f) y
    have n2 := Int.mul_nonneg (show 0 ≤ ptS a b c by omega) nn
    rw [hq] at pq
    have n3 := sq_nn (ptS a b c * y - ptM a b d e)
    have hr : 0 ≤ ptR a b c d e f := by omega
    have rg := (pt_range hs y).2 (abs_le_isq hr (by omega))
    unfold pts
    rw [if_neg (by omega)]
    refine List.mem_flatMap.2 ⟨y, rngI_mem.2 ⟨rg.1, by unfold ptN; omega⟩, ?_⟩
    unfold ptY
    have sq := isq_sq (r := a * x + b * y + d)
    rw [if_pos (by rw [hq]; rcases sq with q | q <;> rw [q]; rw [Int.neg_mul_neg])]
    refine List.mem_flatMap.2 ⟨a * x + b * y + d, ?_, ?_⟩
    · unfold ptHs
      rw [hq]
      split
      · rw [List.mem_singleton]
        omega
      · rcases sq with q | q
        · rw [q]
          exact List.mem_cons_of_mem _ (List.mem_singleton.2 rfl)
        · rw [q, Int.neg_neg]
          exact List.mem_cons_self
    · unfold ptH
      rw [show a * x + b * y + d - b * y - d = a * x by omega, if_pos (Int.mul_emod_right a x), Int.mul_ediv_cancel_left _ (by omega)]
      exact List.mem_singleton.2 rfl
end
theorem flat_len {α β : Type} {k : Nat} {g : α → List β} (h : ∀ x, (g x).length ≤ k) : ∀ l : List α, (l.flatMap g).length ≤ k * l.length
  | [] => by simp
  | x :: l => by
    have := flat_len h l
    have := h x
    rw [List.flatMap_cons, List.length_append, List.length_cons, Nat.mul_add]
    omega
theorem ptH_len (a b d y h : Int) : (ptH a b d y h).length ≤ 1 := by
  unfold ptH
  split <;> simp
theorem ptHs_len (a b c d e f y : Int) : (ptHs a b c d e f y).length ≤ 2 := by
  unfold ptHs
  split <;> simp
theorem ptY_len (a b c d e f y : Int) : (ptY a b c d e f y).length ≤ 2 := by
  unfold ptY
  split
  · have h := flat_len (fun x => ptH_len a b d y x) (ptHs a b c d e f y)
    have := ptHs_len a b c d e f y
    omega
  · decide
/-- the points found ahead of the i-th turn -/
def ptAcc (a b c d e f : Int) (i : Nat) : List (Int × Int) := ((rngI (ptLo a b c d e f) (ptN a b c d e f)).take i).flatMap (ptY a b c d e f)
theorem ptAcc_len (a b c d e f : Int) (i : Nat) : (ptAcc a b c d e f i).length ≤ 2 * ptN a b c d e f := by
  have h := flat_len (fun x => ptY_len a b c d e f x) ((rngI (ptLo a b c d e f) (ptN a b c d e f)).take i)
  have l := rngI_len (ptLo a b c d e f) (ptN a b c d e f)
  rw [List.length_take] at h
  unfold ptAcc
  omega
theorem ptAcc_next {a b c d e f : Int} {i : Nat} (h : i < ptN a b c d e f) : ptAcc a b c d e f (i + 1) = ptAcc a b c d e f i ++ ptY a b c d e f (ptLo a b c d e f + i) := by
  unfold ptAcc
  rw [rngI_take h, List.flatMap_append, List.flatMap_singleton]
theorem ptAcc_all {a b c d e f : Int} (h : ¬ ptR a b c d e f < 0) : ptAcc a b c d e f (ptN a b c d e f) = pts a b c d e f := by
  unfold ptAcc pts
  rw [if_neg h, rngI_all]
theorem ptHs_take {a b c d e f y : Int} {j : Nat} {x : Int} (h : (ptHs a b c d e f y)[j]? = some x) (l : List (Int × Int)) : l ++ ((ptHs a b c d e f y).take (j + 1)).flatMap (ptH a b d y) = (l ++ ((ptHs a b c d e f y).take j).flatMap (ptH a b d y)) ++ ptH a b d y x := by
  rw [take_snoc h, List.flatMap_append, List.flatMap_singleton, List.append_assoc]
theorem sm_isq {x : Int} {n : Nat} (h : 0 ≤ x) (k : Sm n x) : Sm n (isq x) := by
  have s := (isq_spec h).1
  have nn := isq_nn x
  have q := sq_abs (j := isq x)
  have k' : x.natAbs < 2 ^ n := k
  show (isq x).natAbs < 2 ^ n
  omega
theorem sm_ptQ {a b c d e f y : Int} {n : Nat} (ha : Sm n a) (hb : Sm n b) (hc : Sm n c) (hd : Sm n d) (he : Sm n e) (hf : Sm n f) (hy : Sm 63 y) : Sm (3 * n + 140) (ptQ a b c d e f y) := by
  have h1 : Sm (n + 64) (b * y + d) := ((hb.mul hy).add2 (hd.mono (by omega))).mono (by omega)
  have h2 : Sm (n + 126) (c * y * y) := ((hc.mul hy).mul hy).mono (by omega)
  have h3 : Sm (n + 126) (2 * e * y) := (((Sm.of (x := 2) 2 (by decide)).mul he).mul hy).mono (by omega)
  exact (((h1.mul h1).mono (m := 2 * n + 130) (by omega)).sub2 ((ha.mul ((h2.add2 h3).add2 (hf.mono (by omega)))).mono (m := 2 * n + 130) (by omega))).mono (by omega)
theorem ptHs_sm {a b c d e f y k : Int} {j n : Nat} (h : Sm n (isq (ptQ a b c d e f y))) (hk : (ptHs a b c d e f y)[j]? = some k) : Sm n k := by
  have m := List.mem_of_getElem? hk
  unfold ptHs at m
  split at m
  · rw [List.mem_singleton.1 m]
    exact h
  · rcases List.mem_cons.1 m with m | m
    · rw [m]
      exact h.neg
    · rw [List.mem_singleton.1 m]
      exact h
end Cz

namespace L2
open PySem PySem.Spec PyProof.Rows
/-- e.f as a target -/
def gFld (K : PySem.W.Frag) (ta : TE) (f : Str) : TG := fun y σ H Q => ta σ H fun x H2 => ∃ a C dx fs, x = .ref a ∧ H2 a = some (.ins C dx fs) ∧ Cls K C ∧ NoAttr K C f ∧ fs.length < 1000 ∧ Q σ (upd H2 a (.ins C dx (putF f y fs)))
theorem pg_fld {X : Cx} {o : Expr} {f : Str} {pos : Pos} {ta : TE} (ho : PE X o ta) : PG X (.Attribute o f pos) (gFld X.K ta f) := by
  refine ⟨fun pins s σ H v u Q I r h => ?_⟩
  rw [PySem.assign_Attribute]
  refine wpAny_bind (wpAny_holding (thn (ho.run pins s σ H _ I h) fun ov s1 ⟨x, H1, I1, r1, a, C, dx, fs, ex, ea, c, n, l, q⟩ => ?_))
  subst ex
  obtain rfl : ov = Value.ref a := r1
  refine wpAny_bind (wpAny_standAt (wpAny_bind (wpAny_holding (setattr_ok I1 ea c n l r fun s3 I3 => ?_))))
  exact wpAny_release ⟨σ, _, I3, q⟩
theorem pgk_fld (K : PySem.W.Frag) {X : Cx} {o : Expr} {f : Str} {pos : Pos} {ta : TE} (ho : PE X o ta) (hK : X.K = K := by rfl) : PG X (.Attribute o f pos) (gFld K ta f) := by subst hK; exact pg_fld ho
end L2
namespace Cz
open PySem PySem.Spec PyProof.Rows L2
section
variable {K : PySem.W.Frag} {H0 H H' : Hp} {x dx C : Addr} {Γ : List D} {ns : List Str} {ts : List T} {σ : L2.St}
theorem Ini.set {i : Nat} {v : V} {t : T} (h : Ini K H0 x dx C Γ ns ts σ H) (hi : i ≠ 0) (r : Rp K (hid H x) v t) : Ini K H0 x dx C (Γ.set i (.t t)) ns ts (σ.set i (some v)) H := by
  refine ⟨h.keep, h.flds, by rw [List.length_set, List.length_set]; exact h.len, by rw [List.getElem?_set_ne hi]; exact h.self, by rw [List.getElem?_set_ne hi]; exact h.self', fun k d hk e => ?_⟩
  by_cases z : i = k
  · subst z
    by_cases l : i < Γ.length
    · rw [List.getElem?_set_self l] at e
      cases e
      exact .inr ⟨v, t, by rw [List.getElem?_set_self (by rw [h.len]; exact l)], rfl, r⟩
    · rw [List.getElem?_eq_none (by rw [List.length_set]; omega)] at e
      cases e
  · rw [List.getElem?_set_ne z] at e
    rcases h.slots k d hk e with q | ⟨v', t', q, w, r'⟩
    · exact .inl q
    · exact .inr ⟨v', t', by rw [List.getElem?_set_ne z]; exact q, w, r'⟩
/-- self.f, self.g = what gives two -/
theorem i_fld2 {E : Ends} {te : TE} {y z : T} {f g : Str} (h : Ini K H0 x dx C Γ ns ts σ H) (he : Ev K te Γ (.tup [y, z])) (hp : plainT y = true ∧ plainT z = true) (c : Cls K C) (n : NoAttr K C f) (n2 : NoAttr K C g) (hf : ns.all (fun n => !decide (n = f)) = true) (hg : (ns ++ [f]).all (fun n => !decide (n = g)) = true) (hl : ns.length < 999)
    (k : ∀ H', Ini K H0 x dx C Γ (ns ++ [f] ++ [g]) (ts ++ [y] ++ [z]) σ H' → E.nx σ H') : tAsg te (gTup K 2 (gCons (gFld K (tVar 0) f) (gCons (gFld K (tVar 0) g) gNil))) E σ H :=
  he _ _ σ H _ h.env fun v H1 s r => by
    cases r with
    | tup sq r => cases r with
      | cons ra r => cases r with
        | cons rb r => cases r with
          | nil =>
            have h1 := h.same s
            obtain ⟨fs, e, en, rs⟩ := h1.flds
            have h2 := h1.put e (Rp.hide e ra hp.1) hf
            obtain ⟨fs2, e2, en2, rs2⟩ := h2.flds
            exact ⟨_, _, rfl, sq, rfl, _, _, rfl, _, h1.self, x, C, dx, fs, rfl, e, c, n, by rw [h1.nlen e]; omega, _, _, rfl, _, h2.self, x, C, dx, fs2, rfl, e2, c, n2, by rw [h2.nlen e2, List.length_append]; show _ + 1 < 1000; omega, rfl, k _ (h2.put e2 (by rw [hid_upd]; exact Rp.hide e rb hp.2) hg)⟩
end
section
variable {P : Program} {w : World} {K : PySem.W.Frag} {mg : Str → Option Value} {base : Heap}
end
end Cz

namespace Cz
open PySem PySem.Spec PyProof.Rows L2 Kx PySem.W
/-! ### sorted of rows, any number of them -/
def rkey (r : Row) : List Int := [r.x, r.y, r.z]
def rowD (r : Row) : PyData := .tuple [.int r.x, .int r.y, .int r.z]
def rowLe (p q : Row) : Bool := decide (rkey p ≤ rkey q)
def sortR (rs : List Row) : List Row := rs.mergeSort rowLe
theorem dataLe_row {β : Type} (k : β → Row) : dataLe false (fun b => rowD (k b)) = fun p q => rowLe (k p) (k q) := by
  funext p q
  show (!dataLt (rowD (k q)) (rowD (k p))) = decide _
  unfold rowD
  rw [dataLt_tuple]
  show (!rowLt ((rkey (k q)).map .int) ((rkey (k p)).map .int)) = _
  rw [dataLt_ints]
  by_cases h : rkey (k q) < rkey (k p)
  · have h' : ¬ rkey (k p) ≤ rkey (k q) := fun r => List.not_lt.mpr r h
    simp [h, h']
  · have h' : rkey (k p) ≤ rkey (k q) := List.not_lt.mp h
    simp [h, h']
theorem sortR_mem {rs : List Row} {r : Row} : r ∈ sortR rs ↔ r ∈ rs := List.mem_mergeSort
theorem sortR_perm (rs : List Row) : (sortR rs).Perm rs := List.mergeSort_perm _ _
theorem rkey_inj {p q : Row} (h : rkey p = rkey q) : p = q := by
  simp only [rkey, List.cons.injEq, and_true] at h
  exact Row.ext' h.1 h.2.1 h.2.2
def rSortedR (K : PySem.W.Frag) : List V → Hp → VK → Prop := fun vs H Q => ∃ (a : Addr) (bs : List (V × Row)), vs = [V.ref a] ∧ SqL K H a (bs.map (·.1)) ∧ (∀ b ∈ bs, ∃ t, b.1 = .ref t ∧ SqT K H t [.int b.2.x, .int b.2.y, .int b.2.z]) ∧
  ∀ (cs : List (V × Row)) (p : Addr), cs.Perm bs → cs.map (·.2) = sortR (bs.map (·.2)) → H p = none → Q (.ref p) (upd H p (.lst (cs.map (·.1))))
section
variable {X : Cx}
theorem eachIs_vals : ∀ {bs : List (V × Row)} {its : List Value}, Vals (bs.map (·.1)) its → EachIs (fun v (b : V × Row) => RelV b.1 v) its bs
  | [], _, .nil => .nil
  | b :: bs, _, .cons r t => .cons r (eachIs_vals t)
theorem vals_eachIs : ∀ {bs : List (V × Row)} {its : List Value}, EachIs (fun v (b : V × Row) => RelV b.1 v) its bs → Vals (bs.map (·.1)) its
  | _, _, .nil => .nil
  | _, _, .cons r t => .cons r (vals_eachIs t)
theorem vals_ints3 {x y z : Int} {us : List Value} (r : Vals [V.int x, V.int y, V.int z] us) (h : Heap) : ∃ as, ReadsAll h us [.int x, .int y, .int z] as := by
  obtain ⟨u, v, w, rfl, ⟨t1, rfl⟩, ⟨t2, rfl⟩, ⟨t3, rfl⟩⟩ := vals3 r
  exact ⟨_, .cons (.int _ _) (.cons (.int _ _) (.cons (.int _ _) .nil))⟩
theorem cr_sortedR (hu : X.A.units + 64 < cLine) : CallR X (.builtin "sorted") (rSortedR X.K) := by
  intro pins s σ H vs us Q I r h
  obtain ⟨a, bs, rfl, hs, ht, q⟩ := h
  obtain ⟨its, rv, hl, hz⟩ := I.list hs
  rw [Vals.ref1 r]
  have e := eachIs_vals rv
  have er : EachIs (fun v (b : V × Row) => ∃ as, Reads s.heap v (rowD b.2) as) its bs := (each_mem e).mono fun v b ⟨hv, hb⟩ => by
    obtain ⟨t, e1, sq⟩ := ht b hb
    rw [e1] at hv
    cases hv
    obtain ⟨vs, r3, ⟨o, ho, hc, n, hd⟩, _⟩ := I.tuple sq
    obtain ⟨as, ra⟩ := vals_ints3 r3 s.heap
    exact ⟨as, .tuple ho hc hd (by simpa using ra)⟩
  refine sorted_data (enc := fun b : V × Row => rowD b.2) (R := fun v b => RelV b.1 v) hl.isList e er (AllAlike.of fun b b' => by simp [rowD, alike, alikeAll]) (Sortable.tuples fun b => ⟨_, _, rfl⟩) (by rw [List.length_map] at hz; exact hz) (fun b hb => by
    have : (rowD b.2).depth ≤ 10 := by simp [rowD, PyData.depth, PyData.depthAll]
    omega) fun out hlen ho => ?_
  rw [dataLe_row (fun b : V × Row => b.2)] at ho
  obtain ⟨ep, he'⟩ := PyProof.Rows.sortedAll_at s.heap its out.toArray
  have hperm := List.mergeSort_perm bs fun p q => rowLe p.2 q.2
  refine ⟨.ref _, upd H (s.heap.objs.size + 1) (.lst ((bs.mergeSort fun p q => rowLe p.2 q.2).map (·.1))), I.laid (t' := s.toks) (fun _ _ => PyProof.Rows.sortedAll_old) (Nat.le_succ _) ⟨?_, out, ep, vals_eachIs ho, he'⟩, rfl, q _ _ hperm (List.map_mergeSort fun a _ b _ => rfl) (I.hok.fresh (Nat.le_succ _))⟩
  rw [List.length_map, hperm.length_eq]
  rw [List.length_map] at hz
  exact hz
end
end Cz
namespace Cz
open PySem PySem.Spec PyProof.Rows L2 Kx
section
variable {K : PySem.W.Frag} {Γ : List D} {W : WX} {P : Po} {ta : TE}
theorem Rps.zipR {H : Hp} : ∀ {vs : List V} {rs : List Row}, Rps K H vs (rs.map row) → ∃ bs : List (V × Row), bs.map (·.1) = vs ∧ bs.map (·.2) = rs ∧ ∀ b ∈ bs, Rp K H b.1 (row b.2)
  | _, [], .nil => ⟨[], rfl, rfl, fun _ h => nomatch h⟩
  | _, r :: rs, .cons (v := v) h t => by
    obtain ⟨bs, h1, h2, h3⟩ := Rps.zipR t
    refine ⟨(v, r) :: bs, by rw [List.map_cons, h1], by rw [List.map_cons, h2], fun b hb => ?_⟩
    rcases List.mem_cons.1 hb with e | hb
    · subst e
      exact h
    · exact h3 b hb
theorem Rps.unzipR {H : Hp} : ∀ {bs : List (V × Row)}, (∀ b ∈ bs, Rp K H b.1 (row b.2)) → Rps K H (bs.map (·.1)) ((bs.map (·.2)).map row)
  | [], _ => .nil
  | b :: bs, h => .cons (h b List.mem_cons_self) (Rps.unzipR fun c hc => h c (List.mem_cons_of_mem _ hc))
theorem rp_row {H : Hp} {v : V} {r : Row} (h : Rp K H v (row r)) : ∃ t, v = .ref t ∧ SqT K H t [.int r.x, .int r.y, .int r.z] := by
  cases h with
  | tup sq rs =>
    cases rs with
    | cons a rs => cases rs with
      | cons b rs => cases rs with
        | cons c rs => cases rs with
          | nil =>
            cases a
            cases b
            cases c
            exact ⟨_, rfl, sq⟩
/-- sorted of a list of rows -/
theorem evf_sortedR {rs : List Row} (h : EvL K ta Γ (rs.map row)) : EvF K (tCB (rSortedR K) (tCons ta tNil)) Γ ((sortR rs).map row) := fun H0 A σ H Q E q =>
  h H0 A σ H _ E fun b vs H1 s1 sq r => by
    obtain ⟨bs, e1, e2, hb⟩ := Rps.zipR r
    refine ⟨b, bs, rfl, by rw [e1]; exact sq, fun c hc => rp_row (hb c hc), fun cs p hp he hn => ?_⟩
    rw [e2] at he
    refine q p _ _ (s1.free hn) (s1.trans (same_upd hn)) upd_same ?_
    rw [← he]
    exact Rps.unzipR fun c hc => Rp.mono (Imm.of_same (same_upd hn)) (hb c (hp.mem_iff.1 hc))
/-- [e for x, y in xs], xs a list of pairs -/
theorem evf_lcL2 {tl te : TE} {i j : Nat} {xs : List (Int × Int)} (f : Int × Int → T) (hl : EvL K tl Γ (xs.map tup2)) (z : xs.length < 1000000)
    (h : ∀ x y : Int, (x, y) ∈ xs → Ev K te (((wipeD Γ [i, j]).set i (.t (.int x))).set j (.t (.int y))) (f (x, y))) : EvF K (tLc (iList K tl) (gTup K 2 (gCons (gName i) (gCons (gName j) gNil))) tYes te [i, j]) Γ (xs.map f) := by
  refine evf_eq (evf_compL (fun _ => true) (fun k => (xs.map f).getD k .non) hl (by rw [List.length_map]; exact z) fun k x hx => ?_) (by rw [List.length_map, ← List.length_map (f := f), keptN_all])
  rw [List.getElem?_map] at hx
  cases e : xs[k]? with
  | none => rw [e] at hx; cases hx
  | some p =>
    rw [e] at hx
    cases hx
    obtain ⟨a, b⟩ := p
    refine ⟨_, gv_tup rfl (gvs_cons (gv_name i _ (by simp)) (gvs_cons (gv_name j _ (by simp)) gvs_nil)), evb_yes, fun _ => ?_⟩
    have e2 : (xs.map f).getD k .non = f (a, b) := by simp [List.getD, e]
    rw [e2]
    exact h a b (List.mem_of_getElem? e)
end
end Cz

namespace Cz
open PySem PySem.Spec PyProof.Rows L2 Kx
/-! ### the layers of a lattice -/
section
variable (m : Mat) (q : PT4) (a n : Int)
def lyU : Row := (short m (q.s, q.t)).1
def lyV : Row := (short m (q.s, q.t)).2
def lyS : Row := scR q.r (a / q.g)
def lyP : List (Int × Int) := pts (Q m (lyU m q)) (dot (lyU m q) (image m (lyV m q))) (Q m (lyV m q)) (dot (lyS q a) (image m (lyU m q))) (dot (lyS q a) (image m (lyV m q))) (Q m (lyS q a) - n)
def lyR (p : Int × Int) : Row := shR (shR (lyS q a) (lyU m q) p.1) (lyV m q) p.2
def rowsM : List Row := if a % q.g = 0 then sortR ((lyP m q a n).map (lyR m q a)) else []
/-- the layers are made -/
structure LayOk (k : Nat) : Prop where
  hm : m.sm 20
  hs : m = m.tr
  hg : 0 < q.g
  pd : PD m (q.s, q.t)
  ht : q.r.sm k
  hu : (lyU m q).sm k
  hv : (lyV m q).sm k
  gs : Sm k q.g
  hk : k ≤ 300
/-- what is asked of the points of a layer -/
structure PtOk : Prop where
  hn : ptN (Q m (lyU m q)) (dot (lyU m q) (image m (lyV m q))) (Q m (lyV m q)) (dot (lyS q a) (image m (lyU m q))) (dot (lyS q a) (image m (lyV m q))) (Q m (lyS q a) - n) < 400000
  hz : -4611686018427387904 ≤ ptLo (Q m (lyU m q)) (dot (lyU m q) (image m (lyV m q))) (Q m (lyV m q)) (dot (lyS q a) (image m (lyU m q))) (dot (lyS q a) (image m (lyV m q))) (Q m (lyS q a) - n) ∧ ptLo (Q m (lyU m q)) (dot (lyU m q) (image m (lyV m q))) (Q m (lyV m q)) (dot (lyS q a) (image m (lyU m q))) (dot (lyS q a) (image m (lyV m q))) (Q m (lyS q a) - n) < 4611686018427387904 ∧ -4611686018427387904 ≤ ptHi (Q m (lyU m q)) (dot (lyU m q) (image m (lyV m q))) (Q m (lyV m q)) (dot (lyS q a) (image m (lyU m q))) (dot (lyS q a) (image m (lyV m q))) (Q m (lyS q a) - n) ∧ ptHi (Q m (lyU m q)) (dot (lyU m q) (image m (lyV m q))) (Q m (lyV m q)) (dot (lyS q a) (image m (lyU m q))) (dot (lyS q a) (image m (lyV m q))) (Q m (lyS q a) - n) < 4611686018427387904
end
theorem pts_len (a b c d e f : Int) : (pts a b c d e f).length ≤ 2 * ptN a b c d e f := by
  by_cases h : ptR a b c d e f < 0
  · unfold pts
    rw [if_pos h]
    exact Nat.zero_le _
  · rw [← ptAcc_all h]
    exact ptAcc_len a b c d e f _
theorem pts_sm {a b c d e f x y : Int} {n : Nat} (hs0 : 0 < ptS a b c) (ha : Sm n a) (hb : Sm n b) (hc : Sm n c) (hd : Sm n d) (he : Sm n e) (hf : Sm n f)
    (hz : -4611686018427387904 ≤ ptLo a b c d e f ∧ ptLo a b c d e f < 4611686018427387904 ∧ -4611686018427387904 ≤ ptHi a b c d e f ∧ ptHi a b c d e f < 4611686018427387904) (h : (x, y) ∈ pts a b c d e f) : Sm (3 * n + 142) x ∧ Sm 63 y := by
  unfold pts at h
  split at h
  · cases h
  · rename_i hr
    obtain ⟨y', hy', h⟩ := List.mem_flatMap.1 h
    unfold ptY at h
    split at h
    · obtain ⟨k, hk, h⟩ := List.mem_flatMap.1 h
      unfold ptH at h
      split at h
      · rw [List.mem_singleton] at h
        cases h
        have hin := rngI_mem.1 hy'
        have hy : Sm 63 y := show Int.natAbs _ < 2 ^ 63 by
          unfold ptN at hin
          omega
        have hin2 : ptLo a b c d e f ≤ y ∧ y < ptHi a b c d e f := by
          unfold ptN at hin
          omega
        have hq0 := ptQ_nn hs0 (Int.not_lt.1 hr) hin2
        have hT := sm_isq hq0 (sm_ptQ ha hb hc hd he hf hy)
        obtain ⟨j, hj⟩ := List.getElem?_of_mem hk
        have hkS := ptHs_sm hT hj
        have h1 : Sm (3 * n + 141) (k - b * y) := (hkS.sub2 ((hb.mul hy).mono (by omega)))
        exact ⟨Kx.smdiv ((h1.sub2 (hd.mono (by omega))).mono (by omega)), hy⟩
      · cases h
    · cases h
theorem lyS_sm {q : PT4} {a : Int} {k : Nat} (ht : q.r.sm k) (ha : Sm k a) : (lyS q a).sm (2 * k) := (sm_scR ht (Kx.smdiv ha)).mono (by omega)
theorem shR_sm {v r : Row} {t : Int} {n k j l : Nat} (hv : v.sm n) (hr : r.sm k) (ht : Sm j t) (h : n + j + k + 1 ≤ l) : (shR v r t).sm l :=
  ⟨((hv.x.mono (show _ ≤ n + j + k by omega)).add2 ((ht.mul hr.x).mono (by omega))).mono h, ((hv.y.mono (show _ ≤ n + j + k by omega)).add2 ((ht.mul hr.y).mono (by omega))).mono h, ((hv.z.mono (show _ ≤ n + j + k by omega)).add2 ((ht.mul hr.z).mono (by omega))).mono h⟩
end Cz

namespace Kx
open PySem PyProof.Rows L2 Cz
/-! ## products inside the cone -/
def bil (A : Mat) (v w : Row) : Int := dot v (image A w)
theorem bil_symm {A : Mat} (h : A = A.tr) (v w : Row) : bil A v w = bil A w v := dot_symm h v w
/-- the Gram determinant -/
theorem gram {A : Mat} (h : A = A.tr) (p v w : Row) :
    Q A p * (Q A v * Q A w - bil A v w * bil A v w) - bil A p v * (bil A p v * Q A w - bil A v w * bil A p w) + bil A p w * (bil A p v * bil A v w - Q A v * bil A p w) = det A * (det ⟨p, v, w⟩ * det ⟨p, v, w⟩) := by
  have e := det_cong A (Mat.tr ⟨p, v, w⟩)
  rw [det_tr] at e
  rw [← e]
  have hc : cong A (Mat.tr ⟨p, v, w⟩) = ⟨⟨Q A p, bil A p v, bil A p w⟩, ⟨bil A v p, Q A v, bil A v w⟩, ⟨bil A w p, bil A w v, Q A w⟩⟩ := by
    apply Mat.ext' <;> apply Row.ext' <;> (simp only [cong, Q, bil, image, mul, Mat.tr, dot]; grind)
  rw [hc, bil_symm h v p, bil_symm h w p, bil_symm h w v]
  simp only [det, dot, cross]
  grind
def bB (A : Mat) (p v w : Row) : Int := bil A p v * bil A p w - Q A p * bil A v w
theorem bB_self (A : Mat) (p v : Row) : bB A p v v = bil A p v * bil A p v - Q A p * Q A v := rfl
theorem bB_gram {A : Mat} (h : A = A.tr) (p v w : Row) : bB A p v v * bB A p w w - bB A p v w * bB A p v w = Q A p * (det A * (det ⟨p, v, w⟩ * det ⟨p, v, w⟩)) := by
  rw [← gram h]
  unfold bB
  have e1 : bil A v v = Q A v := rfl
  have e2 : bil A w w = Q A w := rfl
  rw [e1, e2]
  grind
section
variable {A : Mat} {p v w : Row}
theorem bB_cs (hA : formOk A = true) (hp : Q A p < 0) (v w : Row) : bB A p v w * bB A p v w ≤ bB A p v v * bB A p w w := by
  have h := bB_gram (formOk_sym hA) p v w
  have hd := formOk_det hA
  have h1 : 0 ≤ det A * (det ⟨p, v, w⟩ * det ⟨p, v, w⟩) * Q A p := by
    rw [Int.mul_comm]
    have hx := sqnn (det ⟨p, v, w⟩)
    have : det A * (det ⟨p, v, w⟩ * det ⟨p, v, w⟩) ≤ 0 := Int.mul_nonpos_of_nonpos_of_nonneg (by omega) hx
    exact Int.mul_nonneg_of_nonpos_of_nonpos (by omega) this
  rw [Int.mul_comm] at h1
  omega
theorem bB_nn (hA : formOk A = true) (hp : Q A p < 0) (v : Row) : 0 ≤ bB A p v v := by
  have hd := formOk_det hA
  obtain ⟨u, hu⟩ := Q_above (formOk_sym hA) (by omega) (formOk_bz hA)
  have h := bB_cs hA hp v u
  have hu2 : 0 < bB A p u u := by
    rw [bB_self]
    have := sqnn (bil A p u)
    have : Q A p * Q A u < 0 := Int.mul_neg_of_neg_of_pos hp hu
    omega
  have := sqnn (bB A p v u)
  by_cases z : 0 ≤ bB A p v v
  · exact z
  · have : bB A p v v * bB A p u u < 0 := Int.mul_neg_of_neg_of_pos (by omega) hu2
    omega
theorem cs_rev (hA : formOk A = true) (hv : Q A v ≤ 0) (hw : Q A w ≤ 0) : Q A v * Q A w ≤ bil A v w * bil A v w := by
  by_cases z : Q A v < 0
  · have := bB_nn hA z w
    rw [bB_self] at this
    omega
  · by_cases z2 : Q A w < 0
    · have := bB_nn hA z2 v
      rw [bB_self, bil_symm (formOk_sym hA)] at this
      rw [Int.mul_comm]
      omega
    · have e : Q A v = 0 := by omega
      rw [e, Int.zero_mul]
      exact sqnn _
end
/-! ## a row led over by a reflection -/
def led (A : Mat) (r v : Row) : Row := ⟨v.x + -(2 * dot r (image A v) / Q A r) * r.x, v.y + -(2 * dot r (image A v) / Q A r) * r.y, v.z + -(2 * dot r (image A v) / Q A r) * r.z⟩
def qut (A : Mat) (r v : Row) : Int := 2 * bil A r v / Q A r
theorem qut_mul {A : Mat} {r : Row} (hs : A = A.tr) (h : RootS A r) (v : Row) : qut A r v * Q A r = 2 * bil A r v := by
  unfold qut
  refine Int.ediv_mul_cancel ?_
  rw [bil_symm hs]
  obtain ⟨_, _, ⟨a, ha⟩, ⟨b, hb⟩, ⟨c, hc⟩⟩ := h
  refine ⟨v.x * a + v.y * b + v.z * c, ?_⟩
  have e : 2 * bil A v r = v.x * (2 * (image A r).x) + v.y * (2 * (image A r).y) + v.z * (2 * (image A r).z) := by
    simp only [bil, dot]
    grind
  rw [e, ha, hb, hc]
  grind
theorem bil_led {A : Mat} (r v w : Row) : bil A w (led A r v) = bil A w v - qut A r v * bil A w r := by
  have e : led A r v = ⟨v.x + -(qut A r v) * r.x, v.y + -(qut A r v) * r.y, v.z + -(qut A r v) * r.z⟩ := rfl
  rw [e]
  generalize qut A r v = q
  simp only [bil, image, dot]
  grind
/-! ## picked from a list -/
/-! ## forward rows of a list -/
end Kx
namespace Cz
open PySem PyProof.Rows L2 Kx
section
variable {K : PySem.W.Frag} {Γ : List D} {W : WX} {P : Po}
end
end Cz

namespace Cz
open PySem PySem.Spec PyProof.Rows L2 Kx
/-! ### the plane square to a row inside -/
def e1R : Row := ⟨1, 0, 0⟩
def e2R : Row := ⟨0, 1, 0⟩
def e3R : Row := ⟨0, 0, 1⟩
theorem in3_unit (v : Row) : In3 e1R e2R e3R v := ⟨v.x, v.y, v.z, by apply Row.ext' <;> (simp only [shR, scR, e1R, e2R, e3R]; omega)⟩
theorem dot_comm (v w : Row) : dot v w = dot w v := by simp only [dot]; grind
/-- the row across: (l, r) (s x t) = det (r, s, t) l where (l, s) = (l, t) = 0, against p -/
theorem across (l r s t p : Row) : det ⟨r, s, t⟩ * dot l p = dot l r * det ⟨p, s, t⟩ + dot l s * det ⟨p, t, r⟩ + dot l t * det ⟨p, r, s⟩ := by
  simp only [det, dot, cross]; grind
/-! ### what a layer holds -/
theorem b_sh_far {m : Mat} (v s f : Row) (k : Int) : dot v (image m (shR s f k)) = dot v (image m s) + k * dot v (image m f) := by
  simp only [dot, shR, image]; grind
theorem in3_split {r s t v : Row} : In3 r s t v ↔ ∃ i w, In2 s t w ∧ v = shR (scR r i) w 1 := by
  constructor
  · rintro ⟨i, j, k, rfl⟩
    exact ⟨i, _, ⟨j, k, rfl⟩, by apply Row.ext' <;> (simp only [shR, scR]; grind)⟩
  · rintro ⟨i, w, ⟨j, k, rfl⟩, rfl⟩
    exact ⟨i, j, k, by apply Row.ext' <;> (simp only [shR, scR]; grind)⟩
theorem lyR_eq (m : Mat) (q : PT4) (a x y : Int) : lyR m q a (x, y) = shR (scR q.r (a / q.g)) (shR (scR (lyU m q) x) (lyV m q) y) 1 := by
  unfold lyR lyS
  apply Row.ext' <;> (simp only [shR, scR]; grind)
theorem q_lyR {m : Mat} (hs : m = m.tr) (q : PT4) (a x y : Int) : Q m (lyR m q a (x, y)) = Q m (lyU m q) * x * x + 2 * dot (lyU m q) (image m (lyV m q)) * x * y + Q m (lyV m q) * y * y + 2 * dot (lyS q a) (image m (lyU m q)) * x + 2 * dot (lyS q a) (image m (lyV m q)) * y + Q m (lyS q a) := by
  unfold lyR
  simp only
  rw [q_sh hs, q_sh hs, b_sh_far, dot_symm hs (lyV m q) (lyS q a), dot_symm hs (lyU m q) (lyS q a), dot_symm hs (lyV m q) (lyU m q)]
  grind
structure LatOk (m : Mat) (l : Row) (q : PT4) : Prop where
  hs : m = m.tr
  g : 0 < q.g
  dr : dot l q.r = q.g
  ds : dot l q.s = 0
  dt : dot l q.t = 0
  pd : PD m (q.s, q.t)
theorem LatOk.line {m : Mat} {l : Row} {q : PT4} (h : LatOk m l q) {w : Row} (hw : In2 q.s q.t w) : dot l w = 0 := by
  obtain ⟨i, j, rfl⟩ := hw
  rw [dot_shR, dot_scR, h.ds, h.dt]
  omega
theorem LatOk.fin {m : Mat} {l : Row} {q : PT4} (h : LatOk m l q) : ShEnd m (q.s, q.t) (lyU m q, lyV m q) := short_end h.hs h.pd
theorem mem_lyP {m : Mat} {l : Row} {q : PT4} (h : LatOk m l q) (a n x y : Int) : (x, y) ∈ lyP m q a n ↔ Q m (lyR m q a (x, y)) = n := by
  unfold lyP
  have hE := h.fin
  rw [mem_pts (a := Q m (lyU m q)) (b := dot (lyU m q) (image m (lyV m q))) (c := Q m (lyV m q)) (d := dot (lyS q a) (image m (lyU m q))) (e := dot (lyS q a) (image m (lyV m q))) (f := Q m (lyS q a) - n) hE.pd.a hE.pd.d x y, q_lyR h.hs]
  omega
theorem mem_rowsM {m : Mat} {l : Row} {q : PT4} (h : LatOk m l q) (a n : Int) (r : Row) : r ∈ rowsM m q a n ↔ In3 q.r q.s q.t r ∧ dot l r = a ∧ Q m r = n := by
  have hE := h.fin
  have dl : ∀ x y, dot l (lyR m q a (x, y)) = a / q.g * q.g := fun x y => by
    rw [lyR_eq, dot_shR, dot_scR, h.dr, h.line ((hE.i _).1 ⟨x, y, rfl⟩)]
    omega
  unfold rowsM
  constructor
  · intro hr
    split at hr
    · rename_i hz
      obtain ⟨⟨x, y⟩, hp, rfl⟩ := List.mem_map.1 (sortR_mem.1 hr)
      have hq := (mem_lyP h a n x y).1 hp
      refine ⟨?_, ?_, hq⟩
      · rw [lyR_eq]
        exact in3_split.2 ⟨_, _, (hE.i _).1 ⟨x, y, rfl⟩, rfl⟩
      · rw [dl]
        exact Int.ediv_mul_cancel (Int.dvd_of_emod_eq_zero hz)
    · cases hr
  · rintro ⟨h3, hd, hq⟩
    obtain ⟨i, w, hw, rfl⟩ := in3_split.1 h3
    rw [dot_shR, dot_scR, h.dr, h.line hw] at hd
    have hd' : i * q.g = a := by omega
    have hz : a % q.g = 0 := by rw [← hd']; exact Int.mul_emod_left i q.g
    have hi : a / q.g = i := by rw [← hd']; exact Int.mul_ediv_cancel i (Int.ne_of_gt h.g)
    rw [if_pos hz, sortR_mem]
    obtain ⟨x, y, rfl⟩ := (hE.i _).2 hw
    have e : lyR m q a (x, y) = shR (scR q.r i) (shR (scR (lyU m q) x) (lyV m q) y) 1 := by rw [lyR_eq, hi]
    exact List.mem_map.2 ⟨(x, y), (mem_lyP h a n x y).2 (by rw [e]; exact hq), e⟩
/-! ### .. once each, ascending -/
end Cz

namespace Cz
open PySem PySem.Spec PyProof.Rows L2 Kx
/-! ### how far a layer reaches -/
theorem gram_num {N F S a b c d e al : Int} (hN : N ≠ 0) (hS : S = a * c - b * b) (g : a * c * (N * N * F - N * (al * al)) + 2 * (b * (N * e) * (N * d)) - a * ((N * e) * (N * e)) - c * ((N * d) * (N * d)) - (N * N * F - N * (al * al)) * (b * b) = 0) :
    N * (F * S - (c * (d * d) - 2 * (b * (d * e)) + a * (e * e))) = al * al * S := by
  subst hS
  have k : N * (N * (F * (a * c - b * b) - (c * (d * d) - 2 * (b * (d * e)) + a * (e * e)))) = N * (al * al * (a * c - b * b)) := by grind
  exact Int.eq_of_mul_eq_mul_left hN k
/-- the numbers of a reduced plane -/
theorem red_num {a b c S : Int} (ha : 0 < a) (hac : a ≤ c) (hb : -a ≤ 2 * b ∧ 2 * b ≤ a) (hS : S = a * c - b * b) : 3 * a ≤ 4 * S ∧ 0 < S := by
  have h1 : (2 * b) * (2 * b) ≤ a * a := by
    rcases Int.le_total 0 (2 * b) with p | p
    · exact Int.mul_le_mul hb.2 hb.2 p (by omega)
    · have := Int.mul_le_mul (show -(2 * b) ≤ a by omega) (show -(2 * b) ≤ a by omega) (show 0 ≤ -(2 * b) by omega) (by omega)
      rwa [Int.neg_mul_neg] at this
  have h2 : a * a ≤ a * c := Int.mul_le_mul_of_nonneg_left hac (by omega)
  have h3 : a * 1 ≤ a * a := Int.mul_le_mul_of_nonneg_left (by omega) (by omega)
  have h4 : (2 * b) * (2 * b) = 4 * (b * b) := by grind
  omega
/-- M and R over S -/
theorem reach_num {N F S a b c d e al n M R : Int} (hN : N < 0) (ha : 0 < a) (hS : S = a * c - b * b) (hM : M = b * d - a * e) (hR : R = M * M + S * (d * d - a * (F - n)))
    (g : N * (F * S - (c * (d * d) - 2 * (b * (d * e)) + a * (e * e))) = al * al * S) : -N * R = S * a * (-N * n + al * al) ∧ -N * (M * M) ≤ S * a * (-N * F + al * al) ∨ S ≤ 0 := by
  by_cases hs : S ≤ 0
  · exact .inr hs
  · left
    have e1 : M * M + S * (d * d) = a * (c * (d * d) - 2 * (b * (d * e)) + a * (e * e)) := by
      rw [hM, hS]
      grind
    have e2 : -N * (M * M + S * (d * d)) = S * a * (-N * F + al * al) := by
      rw [e1]
      grind
    refine ⟨?_, ?_⟩
    · rw [hR]
      grind
    · have h0 : 0 ≤ -N * (S * (d * d)) := Int.mul_nonneg (by omega) (Int.mul_nonneg (by omega) (sq_nn d))
      have : -N * (M * M + S * (d * d)) = -N * (M * M) + -N * (S * (d * d)) := by grind
      omega
theorem gram_layer {A : Mat} {p u v st : Row} (hA : formOk A = true) (hp : Q A p < 0) (hu : dot (image A p) u = 0) (hv : dot (image A p) v = 0) :
    Q A p * (Q A st * (Q A u * Q A v - bil A u v * bil A u v) - (Q A v * (bil A st u * bil A st u) - 2 * (bil A u v * (bil A st u * bil A st v)) + Q A u * (bil A st v * bil A st v))) = dot (image A p) st * dot (image A p) st * (Q A u * Q A v - bil A u v * bil A u v) := by
  have sy := formOk_sym hA
  have lp : dot (image A p) p = Q A p := dot_comm _ _
  have bl : ∀ x, bil A x p = dot (image A p) x := fun x => dot_comm _ _
  generalize hw : shR (scR st (Q A p)) p (-(dot (image A p) st)) = w
  have lw : dot (image A p) w = 0 := by
    rw [← hw, dot_shR, dot_scR, lp]
    grind
  have ac := across (image A p) u v w p
  rw [hu, hv, lw, lp, Int.zero_mul, Int.zero_mul, Int.zero_mul] at ac
  have dz : det ⟨u, v, w⟩ = 0 := (Int.mul_eq_zero.1 ac).resolve_right (by omega)
  have b1 : ∀ x, dot (image A p) x = 0 → bil A x w = Q A p * bil A st x := fun x hx => by
    rw [← hw]
    have : bil A x (shR (scR st (Q A p)) p (-(dot (image A p) st))) = Q A p * bil A x st + -(dot (image A p) st) * bil A x p := by
      simp only [bil, dot, shR, scR, image]
      grind
    rw [this, bl, hx, bil_symm sy x st]
    omega
  have qw : Q A w = Q A p * Q A p * Q A st - Q A p * (dot (image A p) st * dot (image A p) st) := by
    rw [← hw, q_sh sy]
    have e1 : Q A (scR st (Q A p)) = Q A p * Q A p * Q A st := by
      simp only [Q, dot, scR, image]
      grind
    have e2 : dot p (image A (scR st (Q A p))) = Q A p * bil A p st := by
      simp only [bil, Q, dot, scR, image]
      grind
    rw [e1, e2, bil_symm sy p st, bl]
    grind
  have g := gram sy u v w
  rw [dz, b1 u hu, b1 v hv, qw] at g
  refine gram_num (by omega) rfl ?_
  grind
theorem sq_bound {x S k t B : Int} (hS : 0 < S) (h : 3 * (x * x) ≤ 4 * (S * S) * t) (ht : t ≤ B) (hk : 0 < k) (hB : 4 * B < 3 * (k * k)) : -(k * S) ≤ x ∧ x ≤ k * S := by
  have hs := Int.mul_pos hS hS
  have h1 : 4 * (S * S) * t ≤ 4 * (S * S) * B := Int.mul_le_mul_of_nonneg_left ht (by omega)
  have h2 : S * S * (4 * B) < S * S * (3 * (k * k)) := Int.mul_lt_mul_of_pos_left hB hs
  have h3 : x * x < k * S * (k * S) := by
    have e1 : S * S * (4 * B) = 4 * (S * S) * B := by grind
    have e2 : S * S * (3 * (k * k)) = 3 * (k * S * (k * S)) := by grind
    omega
  have h0 : 0 ≤ k * S := Int.mul_nonneg (by omega) (by omega)
  refine ⟨Int.not_lt.1 fun n => ?_, Int.not_lt.1 fun n => ?_⟩
  · have := Int.mul_le_mul (show k * S ≤ -x by omega) (show k * S ≤ -x by omega) h0 (by omega)
    rw [Int.neg_mul_neg] at this
    omega
  · have := Int.mul_le_mul (show k * S ≤ x by omega) (show k * S ≤ x by omega) h0 (by omega)
    omega
/-- what a * t is against the square of S -/
theorem up_num {N S a X Y al B : Int} (hN : N < 0) (hS : 0 < S) (ha : 0 < a) (h3 : 3 * a ≤ 4 * S) (h : -N * X ≤ S * a * (-N * Y + al * al)) (hY : Y + al * al ≤ B) (hB : 0 ≤ B) : 3 * X ≤ 4 * (S * S) * B := by
  have q := sq_nn al
  have e1 : -N * Y + al * al ≤ -N * B := by
    have : -N * (Y + al * al) ≤ -N * B := Int.mul_le_mul_of_nonneg_left hY (by omega)
    have k : 1 * (al * al) ≤ -N * (al * al) := Int.mul_le_mul_of_nonneg_right (by omega) q
    have : -N * (Y + al * al) = -N * Y + -N * (al * al) := by grind
    omega
  have e2 : S * a * (-N * Y + al * al) ≤ S * a * (-N * B) := Int.mul_le_mul_of_nonneg_left e1 (Int.le_of_lt (Int.mul_pos hS ha))
  have e3 : -N * X ≤ -N * (S * a * B) := by
    have : S * a * (-N * B) = -N * (S * a * B) := by grind
    omega
  have e4 : X ≤ S * a * B := Int.le_of_mul_le_mul_left e3 (by omega)
  have e5 : S * B * (3 * a) ≤ S * B * (4 * S) := Int.mul_le_mul_of_nonneg_left h3 (Int.mul_nonneg (by omega) hB)
  have e6 : S * B * (3 * a) = 3 * (S * a * B) := by grind
  have e7 : S * B * (4 * S) = 4 * (S * S) * B := by grind
  omega
theorem ends_num {S w M k j : Int} (hS : 0 < S) (hw0 : 0 ≤ w) (hw : w ≤ k * S) (hM : -(j * S) ≤ M ∧ M ≤ j * S) (hk : 0 ≤ k ∧ k ≤ 199000) (hj : 0 ≤ j ∧ j ≤ 2305843009213693952) :
    (((w + M) / S + 1 - -((w - M) / S)).toNat < 400000) ∧ (-4611686018427387904 ≤ -((w - M) / S) ∧ -((w - M) / S) < 4611686018427387904 ∧ -4611686018427387904 ≤ (w + M) / S + 1 ∧ (w + M) / S + 1 < 4611686018427387904) := by
  have b : ∀ x : Int, -(j * S) ≤ x → x ≤ (k + j) * S → -j ≤ x / S ∧ x / S ≤ k + j := fun x h1 h2 => by
    refine ⟨(Int.le_ediv_iff_mul_le hS).2 (by grind), ?_⟩
    have := Int.ediv_le_ediv hS h2
    rwa [Int.mul_ediv_cancel _ (by omega)] at this
  have e : (k + j) * S = k * S + j * S := by grind
  have b1 := b (w + M) (by omega) (by omega)
  have b2 := b (w - M) (by omega) (by omega)
  have f1 := Int.ediv_mul_le (w + M) (b := S) (by omega)
  have f2 := Int.ediv_mul_le (w - M) (b := S) (by omega)
  have f3 : (w + M) / S + (w - M) / S ≤ 2 * k := by
    refine Int.not_lt.1 fun n => ?_
    have h1 := Int.mul_le_mul_of_nonneg_right (show 2 * k + 1 ≤ (w + M) / S + (w - M) / S by omega) (show 0 ≤ S by omega)
    have h2 : (2 * k + 1) * S = 2 * (k * S) + S := by grind
    have h3 : ((w + M) / S + (w - M) / S) * S = (w + M) / S * S + (w - M) / S * S := by grind
    omega
  omega
theorem isq_le3 {x B : Int} (h : 3 * x ≤ B) (h0 : 0 ≤ B) : 3 * (isq x * isq x) ≤ B := by
  rcases Int.lt_or_le x 0 with n | p
  · have e : isq x = 0 := by
      have s := (Float64.isqrt_spec 0).1
      unfold isq
      rw [show x.toNat = 0 by omega]
      have : Float64.isqrt 0 = 0 := by
        generalize Float64.isqrt 0 = r at s
        rcases Nat.eq_zero_or_pos r with z | z
        · exact z
        · have := Nat.mul_le_mul z z
          omega
      rw [this]
      rfl
    rw [e]
    omega
  · have := (isq_spec p).1
    omega
/-- a layer's points are few and near -/
theorem pt_ok {A : Mat} {p : Row} {q : PT4} {a n : Int} (hA : formOk A = true) (hp : Q A p < 0) (h : LatOk A (image A p) q) (hz : a % q.g = 0) (ha : a.natAbs ≤ 136000) (hn : n ≤ 600000000) (hF : Q A (lyS q a) ≤ 2 ^ 111) : PtOk A q a n := by
  have hE := h.fin
  have lu : dot (image A p) (lyU A q) = 0 := h.line ((hE.i _).1 (in2_self (lyU A q) (lyV A q)).1)
  have lv : dot (image A p) (lyV A q) = 0 := h.line ((hE.i _).1 (in2_self (lyU A q) (lyV A q)).2)
  have ls : dot (image A p) (lyS q a) = a := by
    unfold lyS
    rw [dot_scR, h.dr]
    exact Int.ediv_mul_cancel (Int.dvd_of_emod_eq_zero hz)
  have g := gram_layer (st := lyS q a) hA hp lu lv
  rw [ls] at g
  have a0 : 0 < Q A (lyU A q) := hE.pd.a
  have rd := red_num (a := Q A (lyU A q)) (b := dot (lyU A q) (image A (lyV A q))) (c := Q A (lyV A q)) (S := ptS (Q A (lyU A q)) (dot (lyU A q) (image A (lyV A q))) (Q A (lyV A q))) a0 hE.l hE.b rfl
  have rn := reach_num (N := Q A p) (F := Q A (lyS q a)) (S := ptS (Q A (lyU A q)) (dot (lyU A q) (image A (lyV A q))) (Q A (lyV A q))) (a := Q A (lyU A q)) (b := dot (lyU A q) (image A (lyV A q))) (c := Q A (lyV A q)) (d := dot (lyS q a) (image A (lyU A q))) (e := dot (lyS q a) (image A (lyV A q))) (al := a) (n := n) hp a0 rfl rfl rfl g
  have hal : a * a ≤ 18496000000 := by
    have e : a * a = (a.natAbs : Int) * a.natAbs := (Int.natAbs_mul_self (a := a)).symm
    rw [e]
    exact Int.mul_le_mul (show (a.natAbs : Int) ≤ 136000 by omega) (show (a.natAbs : Int) ≤ 136000 by omega) (by omega) (by decide)
  obtain ⟨r1, r2⟩ := rn.resolve_right (by omega)
  have x1 := up_num (X := ptR (Q A (lyU A q)) (dot (lyU A q) (image A (lyV A q))) (Q A (lyV A q)) (dot (lyS q a) (image A (lyU A q))) (dot (lyS q a) (image A (lyV A q))) (Q A (lyS q a) - n)) (B := 19100000000) hp rd.2 a0 rd.1 (Int.le_of_eq r1) (by omega) (by decide)
  have x2 := up_num (X := ptM (Q A (lyU A q)) (dot (lyU A q) (image A (lyV A q))) (dot (lyS q a) (image A (lyU A q))) (dot (lyS q a) (image A (lyV A q))) * ptM (Q A (lyU A q)) (dot (lyU A q) (image A (lyV A q))) (dot (lyS q a) (image A (lyU A q))) (dot (lyS q a) (image A (lyV A q)))) (B := 2 ^ 112) hp rd.2 a0 rd.1 r2 (by omega) (by decide)
  have m1 := sq_bound (k := 2 ^ 57) rd.2 x2 (Int.le_refl _) (by decide) (by decide)
  have s0 : 0 ≤ 4 * (ptS (Q A (lyU A q)) (dot (lyU A q) (image A (lyV A q))) (Q A (lyV A q)) * ptS (Q A (lyU A q)) (dot (lyU A q) (image A (lyV A q))) (Q A (lyV A q))) * 19100000000 := by
    have := Int.mul_pos rd.2 rd.2
    omega
  have w2 := isq_le3 x1 s0
  have w1 := sq_bound (k := 199000) rd.2 w2 (Int.le_refl _) (by decide) (by decide)
  have en := ends_num rd.2 (isq_nn _) w1.2 m1 ⟨by decide, by decide⟩ ⟨by decide, by decide⟩
  refine ⟨en.1, ?_⟩
  exact en.2
/-! ### the first lattice: all rows -/
theorem dot_le {u v : Row} {a b : Int} (hu : u.le a) (hv : v.le b) (h0 : 0 ≤ b) : -(3 * (a * b)) ≤ dot u v ∧ dot u v ≤ 3 * (a * b) := by
  obtain ⟨u1, u2, u3⟩ := hu
  obtain ⟨v1, v2, v3⟩ := hv
  have k : ∀ t x : Int, -a ≤ t ∧ t ≤ a → -b ≤ x ∧ x ≤ b → -(a * b) ≤ t * x ∧ t * x ≤ a * b := fun t x ht hx => by
    have h1 := mul_abs_le (t := t) hx
    have h2 := Int.mul_le_mul_of_nonneg_right (show (t.natAbs : Int) ≤ a by omega) h0
    omega
  have k1 := k _ _ u1 v1
  have k2 := k _ _ u2 v2
  have k3 := k _ _ u3 v3
  unfold dot
  omega
theorem image_le {m : Mat} {v : Row} {a b : Int} (h1 : m.a.le a) (h2 : m.b.le a) (h3 : m.c.le a) (hv : v.le b) (h0 : 0 ≤ b) : (image m v).le (3 * (a * b)) :=
  ⟨dot_le h1 hv h0, dot_le h2 hv h0, dot_le h3 hv h0⟩
theorem q_le {m : Mat} {v : Row} {b : Int} (hm : m.sm 10) (hv : v.le b) (h0 : 0 ≤ b) : Q m v ≤ 9216 * (b * b) := by
  have i := image_le (le_of_sm hm.a) (le_of_sm hm.b) (le_of_sm hm.c) hv h0
  have d := (dot_le hv i (Int.mul_nonneg (by decide) (Int.mul_nonneg (by decide) h0))).2
  have e : 3 * (b * (3 * (((2 ^ 10 : Nat) : Int) * b))) = 9216 * (b * b) := by
    rw [show ((2 ^ 10 : Nat) : Int) = 1024 from rfl]
    grind
  rw [e] at d
  exact d
theorem scR_le {v : Row} {t a b : Int} (hv : v.le b) (ht : (t.natAbs : Int) ≤ a) (h0 : 0 ≤ b) : (scR v t).le (a * b) := by
  obtain ⟨v1, v2, v3⟩ := hv
  have k : ∀ x : Int, -b ≤ x ∧ x ≤ b → -(a * b) ≤ t * x ∧ t * x ≤ a * b := fun x hx => by
    have h1 := mul_abs_le (t := t) hx
    have h2 := Int.mul_le_mul_of_nonneg_right ht h0
    omega
  exact ⟨k _ v1, k _ v2, k _ v3⟩
instance (r : Row) (c : Int) : Decidable (r.le c) := by unfold Row.le; infer_instance
end Cz

namespace Cz
open PySem PyProof.Rows L2 Kx
section
variable {K : PySem.W.Frag} {Γ : List D} {W : WX} {P : Po}
theorem sqT_K {H : Hp} {a : Addr} {od : Option Addr} {its : Array Value} {n : Nat} {sl : Array (Option Value)} {xs : List V} (l : K.lookup a = some ⟨.type "tuple", od, .seq its n, sl⟩) (hz : its.size ≤ sizeLine) (r : Vals xs its.toList) : SqT K H a xs := .inr ⟨_, its, n, l, rfl, rfl, hz, r⟩
theorem rp_rowK {H : Hp} {a : Addr} {od : Option Addr} {n : Nat} {sl : Array (Option Value)} {x y z : Int} {t u w : Tok} (l : K.lookup a = some ⟨.type "tuple", od, .seq #[.int x t, .int y u, .int z w] n, sl⟩) : Rp K H (.ref a) (row ⟨x, y, z⟩) :=
  .tup (vs := [.int x, .int y, .int z]) (sqT_K l (by show 3 ≤ sizeLine; decide) (.cons ⟨t, rfl⟩ (.cons ⟨u, rfl⟩ (.cons ⟨w, rfl⟩ .nil)))) (.cons (.int _) (.cons (.int _) (.cons (.int _) .nil)))
theorem rp_matK {a r0 r1 r2 : Addr} {od od0 od1 od2 : Option Addr} {n n0 n1 n2 : Nat} {sl sl0 sl1 sl2 : Array (Option Value)} {x0 y0 z0 x1 y1 z1 x2 y2 z2 : Int} {t0 u0 w0 t1 u1 w1 t2 u2 w2 : Tok}
    (l : K.lookup a = some ⟨.type "tuple", od, .seq #[.ref r0, .ref r1, .ref r2] n, sl⟩) (l0 : K.lookup r0 = some ⟨.type "tuple", od0, .seq #[.int x0 t0, .int y0 u0, .int z0 w0] n0, sl0⟩)
    (l1 : K.lookup r1 = some ⟨.type "tuple", od1, .seq #[.int x1 t1, .int y1 u1, .int z1 w1] n1, sl1⟩) (l2 : K.lookup r2 = some ⟨.type "tuple", od2, .seq #[.int x2 t2, .int y2 u2, .int z2 w2] n2, sl2⟩) :
    ∀ H, Rp K H (.ref a) (mat ⟨⟨x0, y0, z0⟩, ⟨x1, y1, z1⟩, ⟨x2, y2, z2⟩⟩) := fun H =>
  .tup (vs := [.ref r0, .ref r1, .ref r2]) (sqT_K l (by show 3 ≤ sizeLine; decide) (.cons rfl (.cons rfl (.cons rfl .nil)))) (.cons (rp_rowK l0) (.cons (rp_rowK l1) (.cons (rp_rowK l2) .nil)))
theorem ev_kg {a : Addr} {x : T} (h : ∀ H, Rp K H (.ref a) x) : Ev K (tC (.ref a)) Γ x := fun H0 A σ H Q E q => q _ H (Same.refl H) (h H)
end
end Cz
namespace Kx
open PySem PyProof.Rows L2 Cz
/-! ## the table of a reflection -/
def e1R : Row := ⟨1, 0, 0⟩
def e2R : Row := ⟨0, 1, 0⟩
def e3R : Row := ⟨0, 0, 1⟩
theorem led_eq (A : Mat) (r v : Row) : led A r v = ⟨v.x + -(qut A r v) * r.x, v.y + -(qut A r v) * r.y, v.z + -(qut A r v) * r.z⟩ := rfl
section
variable {A : Mat} {r : Row}
theorem led_led (hs : A = A.tr) (h : RootS A r) (v : Row) : led A r (led A r v) = v := by
  have e : qut A r (led A r v) = -qut A r v := by
    have p := h.pos
    have a := qut_mul hs h v
    have b := qut_mul hs h (led A r v)
    rw [bil_led] at b
    have e : bil A r r = Q A r := rfl
    rw [e] at b
    refine Int.eq_of_mul_eq_mul_right (a := Q A r) (by omega) ?_
    rw [b]
    grind
  rw [led_eq A r (led A r v), e, led_eq A r v]
  generalize qut A r v = q
  apply Row.ext' <;> (simp only; grind)
end
end Kx

namespace Cz
open PySem PySem.Spec PyProof.Rows L2 Kx
section
variable {K : PySem.W.Frag} {Γ : List D} {W : WX} {P : Po}
/-- e.m(..), a new list -/
theorem evf_meth {ta : TE} {C : Addr} {ns : List Str} {ts : List T} {m : Str} {t : TA} {ds : List D} {xs : List T} {R : List D → D → Prop} {Ex : XK} (h : Ev K ta Γ (.obj C ns ts)) (hm : ns.all (fun n => !decide (n = m)) = true) (ha : EvA K t Γ ds) (hp : R (.t (.obj C ns ts) :: ds) (.l xs)) :
    EvF K (tMeth C m (spD K R) [] Ex ta t) Γ xs := fun H0 A σ H Q E q =>
  h H0 A σ H _ E fun v H1 s1 r1 => by
    cases r1 with
    | obj e en rs =>
      refine ⟨_, _, _, rfl, e, fld_none en hm, ha H0 A σ H1 _ (E.mono s1) fun vs H2 s2 r2 => ?_⟩
      refine ⟨_, _, hp, .cons (Rp.mono (Imm.of_same s2) (.obj e en rs)) (by rw [List.append_nil]; exact r2), fun v H3 s3 r3 => ?_⟩
      obtain ⟨p, ws, rfl, n, e', r⟩ := r3
      exact q p ws H3 ((s1.trans s2).free n) (s1.trans (s2.trans s3)) e' r
end
end Cz

/-! LM: lattices that are narrowed: rows whose products with the unit rows a number divides. -/
namespace Cz
open PySem PySem.Spec PyProof.Rows L2 Kx
/-! ### a number divides a product -/
theorem nat_narrow {n g i : Nat} (hn : 0 < n) : n / Nat.gcd g n ∣ i ↔ n ∣ i * g := by
  have hd : 0 < Nat.gcd g n := Nat.gcd_pos_of_pos_right _ hn
  obtain ⟨a, ha⟩ := Nat.gcd_dvd_right g n
  obtain ⟨b, hb⟩ := Nat.gcd_dvd_left g n
  have e1 : n / Nat.gcd g n = a := by
    conv => lhs; lhs; rw [ha]
    exact Nat.mul_div_cancel_left _ hd
  have co : Nat.Coprime a b := by
    have h := Nat.coprime_div_gcd_div_gcd (m := g) (n := n) hd
    have e2 : g / Nat.gcd g n = b := by
      conv => lhs; lhs; rw [hb]
      exact Nat.mul_div_cancel_left _ hd
    rw [e1, e2] at h
    exact h.symm
  rw [e1]
  constructor
  · rintro ⟨k, hk⟩
    refine ⟨k * b, ?_⟩
    conv => lhs; rw [hk]
    conv => lhs; rhs; rw [hb]
    conv => rhs; lhs; rw [ha]
    generalize Nat.gcd g n = d
    grind
  · rintro ⟨k, hk⟩
    have : a ∣ i * b := by
      refine ⟨k, ?_⟩
      refine Nat.eq_of_mul_eq_mul_left hd ?_
      have z : i * (Nat.gcd g n * b) = Nat.gcd g n * a * k := by
        rw [← hb, ← ha]
        exact hk
      generalize Nat.gcd g n = d at *
      grind
    exact co.dvd_of_dvd_mul_right this
theorem int_narrow {N g i : Int} (hN : 0 < N) (hg : 0 ≤ g) : N / gI g N ∣ i ↔ N ∣ i * g := by
  obtain ⟨n, rfl⟩ := Int.eq_ofNat_of_zero_le (Int.le_of_lt hN)
  obtain ⟨m, rfl⟩ := Int.eq_ofNat_of_zero_le hg
  have e : ((n : Int)) / gI (m : Int) (n : Int) = ((n / Nat.gcd m n : Nat) : Int) := by
    unfold gI
    rw [Int.natAbs_natCast, Int.natAbs_natCast]
    exact (Int.natCast_ediv n (Nat.gcd m n)).symm
  rw [e]
  have h := nat_narrow (n := n) (g := m) (i := i.natAbs) (by omega)
  rw [← Int.natAbs_dvd_natAbs, ← Int.natAbs_dvd_natAbs, Int.natAbs_mul, Int.natAbs_natCast, Int.natAbs_natCast, Int.natAbs_natCast]
  exact h
theorem narrow_pos {N g : Int} (hN : 0 < N) : 0 < N / gI g N := by
  obtain ⟨n, rfl⟩ := Int.eq_ofNat_of_zero_le (Int.le_of_lt hN)
  have e : ((n : Int)) / gI g (n : Int) = ((n / Nat.gcd g.natAbs n : Nat) : Int) := by
    unfold gI
    rw [Int.natAbs_natCast]
    exact (Int.natCast_ediv n (Nat.gcd g.natAbs n)).symm
  rw [e]
  have hn : 0 < n := by omega
  have := Nat.div_pos (Nat.le_of_dvd hn (Nat.gcd_dvd_right g.natAbs n)) (Nat.gcd_pos_of_pos_right _ hn)
  omega
/-! ### lattices -/
def narM (L : Mat) (l : Row) (N : Int) : Mat := ⟨scR (partM L.a L.b L.c l).r (N / gI (partM L.a L.b L.c l).g N), (partM L.a L.b L.c l).s, (partM L.a L.b L.c l).t⟩
def InL (L : Mat) (v : Row) : Prop := In3 L.a L.b L.c v
theorem dot_in3 {l r s t : Row} {i j k : Int} : dot l (shR (shR (scR r i) s j) t k) = i * dot l r + j * dot l s + k * dot l t := by
  simp only [dot, shR, scR]; grind
theorem in3_nar {L : Mat} {l : Row} {N : Int} (hN : 0 < N) (v : Row) : InL (narM L l N) v ↔ InL L v ∧ N ∣ dot l v := by
  unfold InL
  rw [← part_in3 L.a L.b L.c l v]
  obtain ⟨d1, d2, d3, d4⟩ := part_dot L.a L.b L.c l
  constructor
  · rintro ⟨i, j, k, h⟩
    refine ⟨⟨N / gI (partM L.a L.b L.c l).g N * i, j, k, by rw [h]; show shR (shR (scR (scR _ _) i) _ j) _ k = _; rw [scR_scR]; rfl⟩, ?_⟩
    rw [h]
    show N ∣ dot l (shR (shR (scR (scR (partM L.a L.b L.c l).r (N / gI (partM L.a L.b L.c l).g N)) i) (partM L.a L.b L.c l).s j) (partM L.a L.b L.c l).t k)
    rw [dot_in3, d2, d3, Int.mul_zero, Int.mul_zero, Int.add_zero, Int.add_zero, dot_scR, d1]
    have := (int_narrow (g := (partM L.a L.b L.c l).g) (i := N / gI (partM L.a L.b L.c l).g N) hN d4).1 (Int.dvd_refl _)
    exact Int.dvd_mul_of_dvd_right this
  · rintro ⟨⟨i, j, k, h⟩, hd⟩
    rw [h, dot_in3, d2, d3, d1, Int.mul_zero, Int.mul_zero, Int.add_zero, Int.add_zero] at hd
    obtain ⟨i', hi⟩ := (int_narrow hN d4).2 hd
    refine ⟨i', j, k, ?_⟩
    rw [h, hi]
    show _ = shR (shR (scR (scR _ _) i') _ j) _ k
    rw [scR_scR]
    rfl
/-- rows that span what holds rows that span -/
theorem in3_span {r s t : Row} {L : Mat} (hd : det L ≠ 0) (ha : In3 r s t L.a) (hb : In3 r s t L.b) (hc : In3 r s t L.c) : det ⟨r, s, t⟩ ≠ 0 := by
  obtain ⟨i1, j1, k1, h1⟩ := ha
  obtain ⟨i2, j2, k2, h2⟩ := hb
  obtain ⟨i3, j3, k3, h3⟩ := hc
  have e : mul ⟨⟨i1, j1, k1⟩, ⟨i2, j2, k2⟩, ⟨i3, j3, k3⟩⟩ ⟨r, s, t⟩ = L := by
    have c : ∀ (i j k : Int) (u : Row), u = shR (shR (scR r i) s j) t k → (⟨r.x * i + s.x * j + t.x * k, r.y * i + s.y * j + t.y * k, r.z * i + s.z * j + t.z * k⟩ : Row) = u := fun i j k u hu => by
      rw [hu]
      apply Row.ext' <;> (simp only [shR, scR]; grind)
    show (⟨⟨r.x * i1 + s.x * j1 + t.x * k1, r.y * i1 + s.y * j1 + t.y * k1, r.z * i1 + s.z * j1 + t.z * k1⟩, ⟨r.x * i2 + s.x * j2 + t.x * k2, r.y * i2 + s.y * j2 + t.y * k2, r.z * i2 + s.z * j2 + t.z * k2⟩, ⟨r.x * i3 + s.x * j3 + t.x * k3, r.y * i3 + s.y * j3 + t.y * k3, r.z * i3 + s.z * j3 + t.z * k3⟩⟩ : Mat) = L
    rw [c _ _ _ _ h1, c _ _ _ _ h2, c _ _ _ _ h3]
  intro z
  have d := det_mul ⟨⟨i1, j1, k1⟩, ⟨i2, j2, k2⟩, ⟨i3, j3, k3⟩⟩ ⟨r, s, t⟩
  rw [e, z, Int.mul_zero] at d
  exact hd d
theorem in3_a (r s t : Row) : In3 r s t r := ⟨1, 0, 0, by apply Row.ext' <;> (simp only [shR, scR]; grind)⟩
theorem in3_b (r s t : Row) : In3 r s t s := ⟨0, 1, 0, by apply Row.ext' <;> (simp only [shR, scR]; grind)⟩
theorem in3_c (r s t : Row) : In3 r s t t := ⟨0, 0, 1, by apply Row.ext' <;> (simp only [shR, scR]; grind)⟩
theorem part_span {L : Mat} (hd : det L ≠ 0) (l : Row) : det ⟨(partM L.a L.b L.c l).r, (partM L.a L.b L.c l).s, (partM L.a L.b L.c l).t⟩ ≠ 0 :=
  in3_span hd ((part_in3 _ _ _ l _).2 (in3_a _ _ _)) ((part_in3 _ _ _ l _).2 (in3_b _ _ _)) ((part_in3 _ _ _ l _).2 (in3_c _ _ _))
theorem nar_span {L : Mat} (hd : det L ≠ 0) (l : Row) {N : Int} (hN : 0 < N) : det (narM L l N) ≠ 0 := by
  have e : det (narM L l N) = N / gI (partM L.a L.b L.c l).g N * det ⟨(partM L.a L.b L.c l).r, (partM L.a L.b L.c l).s, (partM L.a L.b L.c l).t⟩ := by
    unfold narM
    simp only [det, dot, cross, scR]; grind
  rw [e]
  exact Int.mul_ne_zero (Int.ne_of_gt (narrow_pos hN)) (part_span hd l)
def unitM : Mat := ⟨e1R, e2R, e3R⟩
/-- the rows whose products with the unit rows N divides -/
def latM (m : Mat) (N : Int) : Mat := narM (narM (narM unitM m.a N) m.b N) m.c N
def layQ (m : Mat) (p : Row) (N : Int) : PT4 := partM (latM m N).a (latM m N).b (latM m N).c (image m p)
theorem lat_span (m : Mat) {N : Int} (hN : 0 < N) : det (latM m N) ≠ 0 := nar_span (nar_span (nar_span (by decide) _ hN) _ hN) _ hN
theorem mem_lat (m : Mat) {N : Int} (hN : 0 < N) (v : Row) : InL (latM m N) v ↔ N ∣ (image m v).x ∧ N ∣ (image m v).y ∧ N ∣ (image m v).z := by
  unfold latM
  rw [in3_nar hN, in3_nar hN, in3_nar hN]
  exact ⟨fun ⟨⟨⟨_, a⟩, b⟩, c⟩ => ⟨a, b, c⟩, fun ⟨a, b, c⟩ => ⟨⟨⟨in3_unit v, a⟩, b⟩, c⟩⟩
/-- on the plane square to a row inside norms are above 0 -/
theorem perp_span {A : Mat} {p r s t : Row} (hA : formOk A = true) (hp : Q A p < 0) (dn : det ⟨r, s, t⟩ ≠ 0) (hs : dot (image A p) s = 0) (ht : dot (image A p) t = 0) : PD A (s, t) := by
  have sy := formOk_sym hA
  have hd := formOk_det hA
  have bs : bil A p s = 0 := by
    show dot p (image A s) = 0
    rw [dot_symm sy, dot_comm]
    exact hs
  have bt : bil A p t = 0 := by
    show dot p (image A t) = 0
    rw [dot_symm sy, dot_comm]
    exact ht
  have ac := across (image A p) r s t p
  rw [hs, ht] at ac
  have hpp : dot (image A p) p = Q A p := dot_comm _ _
  rw [hpp, Int.zero_mul, Int.zero_mul, Int.add_zero, Int.add_zero] at ac
  have dp : det ⟨p, s, t⟩ ≠ 0 := fun z => by
    rw [z, Int.mul_zero] at ac
    exact Int.mul_ne_zero dn (by omega) ac
  have g := bB_gram sy p s t
  have e1 : bB A p s s = -(Q A p) * Q A s := by
    rw [bB_self, bs]
    grind
  have e2 : bB A p t t = -(Q A p) * Q A t := by
    rw [bB_self, bt]
    grind
  have e3 : bB A p s t = -(Q A p) * bil A s t := by
    unfold bB
    rw [bs]
    grind
  have n := bB_nn hA hp s
  rw [e1, e2, e3] at g
  rw [e1] at n
  have dq : 0 < det ⟨p, s, t⟩ * det ⟨p, s, t⟩ := by
    have := sq_nn (det ⟨p, s, t⟩)
    have : det ⟨p, s, t⟩ * det ⟨p, s, t⟩ ≠ 0 := Int.mul_ne_zero dp dp
    omega
  have k : Q A p * (Q A s * Q A t - bil A s t * bil A s t) = det A * (det ⟨p, s, t⟩ * det ⟨p, s, t⟩) := by
    have : Q A p * (Q A p * (Q A s * Q A t - bil A s t * bil A s t)) = Q A p * (det A * (det ⟨p, s, t⟩ * det ⟨p, s, t⟩)) := by
      rw [← g]
      grind
    exact Int.eq_of_mul_eq_mul_left (by omega) this
  have kn : det A * (det ⟨p, s, t⟩ * det ⟨p, s, t⟩) < 0 := Int.mul_neg_of_neg_of_pos (by omega) dq
  have dpos : 0 < Q A s * Q A t - bil A s t * bil A s t := Int.not_le.1 fun z => by
    have := Int.mul_nonneg (show 0 ≤ -(Q A p) by omega) (show 0 ≤ -(Q A s * Q A t - bil A s t * bil A s t) by omega)
    rw [Int.neg_mul_neg] at this
    omega
  have sn : 0 ≤ Q A s := Int.not_lt.1 fun z => by
    have := Int.mul_neg_of_pos_of_neg (show 0 < -(Q A p) by omega) z
    omega
  have s0 : Q A s ≠ 0 := fun z => by
    rw [z, Int.zero_mul] at dpos
    have := sq_nn (bil A s t)
    omega
  exact ⟨by show 0 < Q A s; omega, dpos⟩
theorem lat_ok {A : Mat} {p : Row} {N : Int} (hA : formOk A = true) (hp : Q A p < 0) (hN : 0 < N) : LatOk A (image A p) (layQ A p N) := by
  have sy := formOk_sym hA
  obtain ⟨d1, d2, d3, _⟩ := part_dot (latM A N).a (latM A N).b (latM A N).c (image A p)
  refine ⟨sy, part_ne ?_, d1, d2, d3, perp_span hA hp (part_span (lat_span A hN) _) d2 d3⟩
  refine Classical.byContradiction fun z => ?_
  rw [not_or, not_or, Classical.not_not, Classical.not_not, Classical.not_not] at z
  obtain ⟨z1, z2, z3⟩ := z
  have hin : InL (latM A N) (scR p N) := by
    rw [mem_lat A hN]
    have e : image A (scR p N) = scR (image A p) N := by
      apply Row.ext' <;> (simp only [image, scR, dot]; grind)
    rw [e]
    exact ⟨⟨(image A p).x, by simp only [scR, Int.mul_comm]⟩, ⟨(image A p).y, by simp only [scR, Int.mul_comm]⟩, ⟨(image A p).z, by simp only [scR, Int.mul_comm]⟩⟩
  obtain ⟨i, j, k, h⟩ := hin
  have e : dot (image A p) (scR p N) = N * Q A p := by
    rw [dot_scR, dot_comm]
    rfl
  rw [h, dot_in3, z1, z2, z3] at e
  have := Int.mul_ne_zero (Int.ne_of_gt hN) (Int.ne_of_lt hp)
  omega
/-- the rows that the layers of a kind give: those with the product and the norm whose products N divides -/
theorem mem_lay {A : Mat} {p : Row} {N : Int} (hA : formOk A = true) (hp : Q A p < 0) (hN : 0 < N) (a n : Int) (r : Row) :
    r ∈ rowsM A (layQ A p N) a n ↔ (N ∣ (image A r).x ∧ N ∣ (image A r).y ∧ N ∣ (image A r).z) ∧ dot (image A p) r = a ∧ Q A r = n := by
  rw [mem_rowsM (lat_ok hA hp hN), ← mem_lat A hN]
  show In3 (layQ A p N).r (layQ A p N).s (layQ A p N).t r ∧ _ ↔ In3 _ _ _ r ∧ _
  unfold layQ
  rw [part_in3]
end Cz

/-! CzP: defs that move a counter, a list of one int that the caller made (place), over a list of ints that is only read (numbers). -/
namespace Cz
open PySem PySem.Spec PyProof.Rows L2

/-- only what stands at b is changed -/
def Chg (b : Addr) (H H' : Hp) : Prop := ∀ c o, H c = some o → c ≠ b → H' c = some o
/-! ### expressions that bring one kind of states to another -/
section
variable (K : PySem.W.Frag)
/-- such states know the names as Γ says -/
structure OkS (S : L2.St → Hp → Prop) (Γ : List D) : Prop where
  env : ∀ σ H, S σ H → ∃ H0 A, EnvD K H0 H σ Γ A
  mono : ∀ σ H H', S σ H → Same H H' → S σ H'
end
section
variable {K : PySem.W.Frag} {Γ : List D} {S S' S1 S2 : L2.St → Hp → Prop} {ta tb : TE} {x y z : T} {i j : Int}
/-! arguments -/
end

/-! ### a frame that was given the counter: numbers at a, the counter at b -/
def plainD : D → Bool
  | .no => true
  | .t _ => true
  | .rf _ => true
  | _ => false
structure EnvP (K : PySem.W.Frag) (H0 H : Hp) (σ : L2.St) (Γ : List D) (a b : Addr) (ns : List Int) (k : Nat) : Prop where
  env : EnvD K H0 H σ Γ (fun _ => 0)
  na : SqL K H a (ns.map V.int)
  ne : a ≠ b
  pl : H b = some (.lst [.int k])
  n0 : H0 b = none
  pla : ∀ (i : Nat) (d : D), Γ[i]? = some d → plainD d = true
section
variable {K : PySem.W.Frag} {H0 H H' : Hp} {σ : L2.St} {Γ : List D} {a b : Addr} {ns : List Int} {k l : Nat}
end
structure PoP where
  nx : List D → Nat → Prop
  rt : T → Nat → Prop
  bk : List D → Nat → Prop := fun _ _ => False
  ct : List D → Nat → Prop := fun _ _ => False
structure MeetP (K : PySem.W.Frag) (H0 : Hp) (H : Hp) (a b : Addr) (ns : List Int) (P : PoP) (E : Ends) : Prop where
  nx : ∀ Γ' σ H' l, P.nx Γ' l → EnvP K H0 H' σ Γ' a b ns l → Chg b H H' → E.nx σ H'
  rt : ∀ v x H' l, P.rt x l → H' b = some (.lst [.int l]) → Chg b H H' → Rp K H' v x → E.rt v H'
  bk : ∀ Γ' σ H' l, P.bk Γ' l → EnvP K H0 H' σ Γ' a b ns l → Chg b H H' → E.bk σ H'
  ct : ∀ Γ' σ H' l, P.ct Γ' l → EnvP K H0 H' σ Γ' a b ns l → Chg b H H' → E.ct σ H'
section
variable {K : PySem.W.Frag} {Γ : List D} {a b : Addr} {ns : List Int} {k l m : Nat} {P : PoP} {ta tb te : TE} {x y z : T} {i j : Int}
/-! statements -/
end

/-! ### the promise of such a def -/
def ArgR (K : PySem.W.Frag) (H : Hp) : V → D → Prop
  | v, .t x => Rp K H v x
  | v, .rf c => v = .ref c
  | _, _ => False
inductive ArgsR (K : PySem.W.Frag) (H : Hp) : List V → List D → Prop
  | nil : ArgsR K H [] []
  | cons {v : V} {vs : List V} {d : D} {ds : List D} : ArgR K H v d → ArgsR K H vs ds → ArgsR K H (v :: vs) (d :: ds)
theorem ArgsR.length {K : PySem.W.Frag} {H : Hp} : ∀ {vs : List V} {ds : List D}, ArgsR K H vs ds → vs.length = ds.length
  | _, _, .nil => rfl
  | _, _, .cons _ r => by rw [List.length_cons, List.length_cons, ArgsR.length r]
theorem ArgsR.at' {K : PySem.W.Frag} {H : Hp} : ∀ {vs : List V} {ds : List D} {i : Nat} {d : D}, ArgsR K H vs ds → ds[i]? = some d → ∃ v, vs[i]? = some v ∧ ArgR K H v d
  | _, _, _, _, .nil, e => by simp at e
  | _, _, 0, _, .cons h _, e => by
    rw [List.getElem?_cons_zero] at e
    rw [Option.some.inj e] at h
    exact ⟨_, rfl, h⟩
  | _, _, i + 1, d, .cons _ r, e => by
    obtain ⟨v, h1, h2⟩ := ArgsR.at' (i := i) (d := d) r (by simpa using e)
    exact ⟨v, by simpa using h1, h2⟩
section
variable {P : Program} {w : World} {K : PySem.W.Frag} {mg : Str → Option Value} {base : Heap}
end
/-! a call of such a def: from a frame that was given the counter -/
section
variable {K : PySem.W.Frag} {Γ : List D} {a b : Addr} {ns : List Int} {k l : Nat} {x : T}
end
/-! .. from a frame that owns both lists -/
section
variable {K : PySem.W.Frag} {Γ Γ1 Γ2 : List D} {W : WX} {P : Po} {ta tb te : TE} {x y z : T} {i j : Int}
/-! statements -/
end
end Cz
namespace Cz
open PySem PySem.Spec PyProof.Rows L2
section
variable {K : PySem.W.Frag} {Γ : List D} {a b : Addr} {ns : List Int} {k l : Nat} {ta tb : TE} {i j : Int}
end
end Cz

namespace Cz
open PySem PySem.Spec PyProof.Rows L2
/-! ### range(a, b, c), c above 0 -/
def rgN (a b c : Int) : Nat := if a < b then ((b - a - 1) / c + 1).toNat else 0
theorem rgN_size {a b c : Int} (hc : 0 < c) : Builtin.Range.rangeSize a b c = rgN a b c := by
  unfold Builtin.Range.rangeSize rgN
  rw [if_pos (by omega)]
  by_cases h : a < b
  · rw [if_pos h, if_pos h]
    have := Int.ediv_nonneg (a := b - a - 1) (b := c) (by omega) (by omega)
    omega
  · rw [if_neg h, if_neg h]
    rfl
theorem rgC_pos {a b c : Int} (hc : 0 < c) (hc2 : c < 1073741824) (ha : -1000000000 ≤ a ∧ a ≤ 1000000000) (hb : -1000000000 ≤ b ∧ b ≤ 1000000000) : RgC a b c (rgN a b c) := by
  refine ⟨by omega, by omega, ?_, rgN_size hc⟩
  unfold Builtin.Range.small
  have e := rgN_size (a := a) (b := b) hc
  have hn : rgN a b c ≤ 2000000001 := by
    unfold rgN
    split
    · have := Int.ediv_le_self c (show (0 : Int) ≤ b - a - 1 by omega)
      omega
    · omega
  rw [e]
  simp only [Builtin.Range.rangeFitsLong, Bool.and_eq_true, Bool.or_eq_true, decide_eq_true_eq, beq_iff_eq, show c > 0 from hc, if_true]
  omega
section
variable {K : PySem.W.Frag} {Γ : List D} {W : WX} {P : Po} {ta tb tc te : TE} {x : T}
theorem sv_range3p {g : TG} {t : TS} {a b c : Int} (I : Nat → List D → Prop) (ha : Ev K ta Γ (.int a)) (hb : Ev K tb Γ (.int b)) (hc : Ev K tc Γ (.int c)) (z0 : 0 < c) (z1 : c < 1073741824) (za : -1000000000 ≤ a ∧ a ≤ 1000000000) (zb : -1000000000 ≤ b ∧ b ≤ 1000000000) (h0 : I 0 Γ)
    (hs : ∀ i G, i < rgN a b c → I i G → ∃ G', Gd K g G (.int (a + i * c)) G' ∧ Sv K W t G' { P with nx := I (i + 1), ct := I (i + 1), bk := P.nx }) (hd : ∀ G, I (rgN a b c) G → P.nx G) :
    Sv K W (tFor (iRng3 (tCons ta (tCons tb (tCons tc tNil)))) g t) Γ P := fun H0 A σ H E hE M => by
  refine ha H0 A σ H _ hE fun v H1 s1 r1 => hb H0 A σ H1 _ (hE.mono s1) fun w H2 s2 r2 => hc H0 A σ H2 _ ((hE.mono s1).mono s2) fun u H3 s3 r3 => ?_
  cases r1
  cases r2
  cases r3
  have M := ((M.later s1).later s2).later s3
  refine ⟨a, b, c, rgN a b c, rfl, rgC_pos z0 z1 za zb, for_rangeC (fun i σ H => ∃ G B, I i G ∧ EnvD K H0 H σ G B ∧ Go Γ A H3 G B H) ⟨Γ, A, h0, ((hE.mono s1).mono s2).mono s3, .of_same (Same.refl H3)⟩ ?_ ?_⟩
  · rintro i σ H ii ⟨G, B, iG, eG, gG⟩
    obtain ⟨G', hg, hb⟩ := hs i G ii iG
    refine hg H0 B σ H _ _ eG (.int _) fun σ2 e2 g2 => ?_
    exact hb H0 B σ2 H _ e2 (M.turn (gG.trans g2) fun G B σ H' p e g => ⟨G, B, p, e, g⟩)
  · rintro σ H ⟨G, B, iG, eG, gG⟩
    exact M.nx G B σ H (hd G iG) eG gG
/-- xs.extend(e), e a new list -/
theorem sv_extend {i : Nat} {xs ys : List T} (hi : Γ[i]? = some (.own xs)) (h : EvF K te Γ ys) (z : xs.length + ys.length ≤ 16000000) (n : P.nx (Γ.set i (.own (xs ++ ys)))) :
    Sv K W (tDrop (tBM K "list" rExtend (tVar i) (tCons te tNil))) Γ P := fun H0 A σ H E hE M => by
  obtain ⟨e, n0, vs, s, r⟩ := hE.ow hi
  refine ⟨.ref (A i), e, .inl ⟨rfl, vs, .of s⟩, ?_⟩
  refine h H0 A σ H _ hE fun p us H1 np s1 e1 r1 => ?_
  have E1 := hE.mono s1
  obtain ⟨_, _, vs', s', r'⟩ := E1.ow hi
  refine ⟨A i, p, vs', us, rfl, rfl, s', e1, ?_, ?_⟩
  · rw [r'.length, r1.length, sizeLine_eq]; omega
  · exact M.nx _ A σ _ n (E1.chg hi (r'.append r1)) ((Go.chg hi).same_then s1)
/-- raise X(e) -/
theorem sv_raise1 {C : Addr} (h : Ev K te Γ x) (hr : P.er C Γ) : Sv K W (fun _ σ H => te σ H fun _ H1 => W (.ref C) none σ H1) Γ P := fun H0 A σ H E hE M =>
  h H0 A σ H _ hE fun v H1 s r => M.er C Γ A σ H1 hr (hE.mono s) (.of_same s)
/-! f-strings -/
theorem ev_fmtI {i : Int} (h : Ev K te Γ (.int i)) (z : i.natAbs.log2 < 1920) : Ev K (tFmt te) Γ (.str (toString i)) := fun H0 A σ H Q E q =>
  h H0 A σ H _ E fun v H1 s r => by
    cases r
    exact .inr ⟨i, rfl, z, q _ H1 s (.str _)⟩
def EvJ (K : PySem.W.Frag) (ts : List TE) (Γ : List D) (acc out : Str) : Prop := ∀ (H0 : Hp) (A : Nat → Addr) (σ : L2.St) (H : Hp) (Q : Str → Hp → Prop), EnvD K H0 H σ Γ A → (∀ H', Same H H' → Q out H') → tJs ts acc σ H Q
theorem evj_nil {acc : Str} : EvJ K [] Γ acc acc := fun H0 A σ H Q E q => q H (Same.refl H)
theorem evj_cons {ts : List TE} {acc y out : Str} (h : Ev K te Γ (.str y)) (z : (acc ++ y).length ≤ sizeLine) (r : EvJ K ts Γ (acc ++ y) out) : EvJ K (te :: ts) Γ acc out := fun H0 A σ H Q E q =>
  h H0 A σ H _ E fun v H1 s1 r1 => by
    cases r1
    exact ⟨y, rfl, z, r H0 A σ H1 Q (E.mono s1) fun H2 s2 => q H2 (s1.trans s2)⟩
theorem ev_joined {ts : List TE} {out : Str} (h : EvJ K ts Γ Str.empty out) : Ev K (fun σ H Q => tJs ts Str.empty σ H fun out H1 => Q (.str out) H1) Γ (.str out) := fun H0 A σ H Q E q =>
  h H0 A σ H _ E fun H1 s => q _ H1 s (.str _)
/-! try with two clauses, without names -/
end
end Cz
namespace Cz
open PySem PySem.Spec PyProof.Rows L2
theorem strlen {acc y : Str} (h : y.length ≤ 10) (k : acc.length ≤ 1000) : (acc ++ y).length ≤ sizeLine := by
  rw [Str.length_append, sizeLine_eq]
  omega
theorem strlen2 {acc y s : Str} (h : y.length ≤ 10) (k : acc.length + s.length ≤ 1000) : (acc ++ y ++ s).length ≤ sizeLine := by
  rw [Str.length_append, Str.length_append, sizeLine_eq]
  omega
theorem strlen3 {acc y s z : Str} (h : y.length ≤ 10) (hz : z.length ≤ 10) (k : acc.length + s.length ≤ 1000) : (acc ++ y ++ s ++ z).length ≤ sizeLine := by
  rw [Str.length_append, Str.length_append, Str.length_append, sizeLine_eq]
  omega
end Cz

namespace Cz
open PySem PySem.Spec PyProof.Rows L2 Kx
/-! ### numbers of a script, a counter over them -/
/-! ### the seventeen forms -/
structure Ent where
  a : Int
  b : Int
  c : Int
  d : Int
  e : Int
  f : Int
  p : Row
  bd : Int
def sixM (e : Ent) : Mat := ⟨⟨e.a, e.b, e.c⟩, ⟨e.b, e.d, e.e⟩, ⟨e.c, e.e, e.f⟩⟩
def forms17 : List Ent := [⟨1, 0, 0, 1, 0, -1, ⟨0, 0, 1⟩, 1⟩, ⟨1, 0, 0, 1, 0, -2, ⟨0, 0, 1⟩, 2⟩, ⟨1, 0, 0, 1, 0, -3, ⟨0, 0, 1⟩, 2⟩,
  ⟨1, 0, 0, 2, 0, -1, ⟨0, 0, 1⟩, 1⟩, ⟨1, 0, 0, 3, 0, -1, ⟨0, 0, 1⟩, 3⟩, ⟨2, 0, 0, 3, 0, -1, ⟨0, 0, 1⟩, 1⟩,
  ⟨1, 0, 0, 2, 0, -3, ⟨0, 0, 1⟩, 6⟩, ⟨1, 0, 0, 5, 0, -1, ⟨0, 0, 1⟩, 5⟩, ⟨2, 1, 0, 2, 0, -1, ⟨0, 0, 1⟩, 1⟩,
  ⟨2, 1, 0, 2, 0, -2, ⟨0, 0, 1⟩, 6⟩, ⟨2, 1, 0, 2, 0, -3, ⟨0, 0, 1⟩, 3⟩, ⟨1, 0, 0, 2, 0, -2, ⟨0, 0, 1⟩, 1⟩,
  ⟨2, 0, 1, 2, 0, -1, ⟨0, 0, 1⟩, 1⟩, ⟨0, 0, 1, 1, 0, 0, ⟨1, -1, -1⟩, 1⟩, ⟨0, 0, 1, 3, 0, 0, ⟨1, 0, -1⟩, 4⟩,
  ⟨3, 0, 0, 3, 0, -1, ⟨0, 0, 1⟩, 1⟩, ⟨2, 1, 1, 3, 0, -1, ⟨0, 0, 1⟩, 1⟩]
def choE (n : Int) : Ent := forms17.getD (n % 17).toNat ⟨0, 0, 0, 0, 0, 0, ⟨0, 0, 0⟩, 0⟩
def choA (n : Int) : Int := n / 17 % 3 - 1
def choB (n : Int) : Int := n / 51 % 3 - 1
def choC (n : Int) : Int := n / 153 % 3 - 1
def upF (a : Int) : Mat := ⟨⟨1, a, 0⟩, ⟨0, 1, 0⟩, ⟨0, 0, 1⟩⟩
def loF (b c : Int) : Mat := ⟨⟨1, 0, 0⟩, ⟨b, 1, 0⟩, ⟨0, c, 1⟩⟩
def loB (b c : Int) : Mat := ⟨⟨1, 0, 0⟩, ⟨-b, 1, 0⟩, ⟨b * c, -c, 1⟩⟩
def turnM (n : Int) : Mat := mul (upF (choA n)) (loF (choB n) (choC n))
def backM (n : Int) : Mat := mul (loB (choB n) (choC n)) (upF (-choA n))
def choF (n : Int) : Mat := mul (turnM n).tr (mul (sixM (choE n)) (turnM n))
def choP (n : Int) : Row := image (backM n) (choE n).p
theorem cho_mod (n : Int) : choE n = choE (n % 459) ∧ choA n = choA (n % 459) ∧ choB n = choB (n % 459) ∧ choC n = choC (n % 459) := by
  refine ⟨?_, ?_, ?_, ?_⟩
  · unfold choE
    rw [show n % 459 % 17 = n % 17 by omega]
  · unfold choA; omega
  · unfold choB; omega
  · unfold choC; omega
theorem choF_mod (n : Int) : choF n = choF (n % 459) := by
  obtain ⟨h1, h2, h3, h4⟩ := cho_mod n
  unfold choF turnM
  rw [h1, h2, h3, h4]
theorem choP_mod (n : Int) : choP n = choP (n % 459) := by
  obtain ⟨h1, h2, h3, h4⟩ := cho_mod n
  unfold choP backM
  rw [h1, h2, h3, h4]
/-- what holds of all 459 -/
theorem cho_all {p : Int → Bool} (hp : ∀ n, p n = p (n % 459)) (h : (List.range 459).all (fun i => p (i : Nat)) = true) (n : Int) : p n = true := by
  rw [hp]
  have h1 : 0 ≤ n % 459 := Int.emod_nonneg _ (by decide)
  have h2 : n % 459 < 459 := Int.emod_lt_of_pos _ (by decide)
  have := List.all_eq_true.1 h (n % 459).toNat (List.mem_range.2 (by omega))
  rwa [Int.toNat_of_nonneg h1] at this
def leB (v : Row) (c : Int) : Bool := decide (-c ≤ v.x ∧ v.x ≤ c) && (decide (-c ≤ v.y ∧ v.y ≤ c) && decide (-c ≤ v.z ∧ v.z ≤ c))
theorem leB_iff {v : Row} {c : Int} : leB v c = true ↔ v.le c := by
  unfold leB Row.le
  simp only [Bool.and_eq_true, decide_eq_true_eq]
def choOk (n : Int) : Bool := formOk (choF n) && (decide (Q (choF n) (choP n) < 0) && leB (choP n) 5)
theorem cho_ok (n : Int) : formOk (choF n) = true ∧ Q (choF n) (choP n) < 0 ∧ (choP n).le 5 := by
  have h : choOk n = true := cho_all (p := choOk) (fun n => by unfold choOk; rw [← choF_mod, ← choP_mod]) (by decide +kernel) n
  unfold choOk at h
  simp only [Bool.and_eq_true, decide_eq_true_eq] at h
  exact ⟨h.1, h.2.1, leB_iff.1 h.2.2⟩
/-! ### a row that is drawn -/
end Cz
namespace Cz
open PySem PySem.Spec PyProof.Rows L2 Kx
end Cz
namespace Cz
open PySem PySem.Spec PyProof.Rows L2 Kx
end Cz

namespace Cz
open PySem PySem.Spec PyProof.Rows L2 Kx
/-! ### the box that holds all rows: B = 2 u u^T - N A -/
theorem adj_im (B : Mat) (e : Row) : image B (image (adj B) e) = scR e (det B) := by
  rw [← image_mul, mul_adj]
  apply Row.ext' <;> (simp only [image, smul, one, dot, scR]; grind)
end Cz

namespace Cz
open PySem PySem.Spec PyProof.Rows L2 Kx
/-! ### all rows of a norm up to a height -/
theorem rgN_lt {a b c : Int} {i : Nat} (hc : 0 < c) (h : i < rgN a b c) : a + (i : Int) * c < b := by
  unfold rgN at h
  split at h
  · rename_i hab
    have h1 : (i : Int) ≤ (b - a - 1) / c := by omega
    have h2 := Int.mul_le_mul_of_nonneg_right h1 (Int.le_of_lt hc)
    have h3 : (b - a - 1) / c * c ≤ b - a - 1 := Int.ediv_mul_le _ (by omega)
    omega
  · omega
section
variable {A : Mat} {p : Row} {k h : Int}
end
/-! ### the rows that are listed in a box -/
end Cz
namespace Cz
open PySem PySem.Spec PyProof.Rows L2 Kx
section
variable {A : Mat} {p : Row} {k h : Int}
theorem le5_sm {p : Row} (hp : p.le 5) : p.sm 3 := by
  obtain ⟨⟨x1, x2⟩, ⟨y1, y2⟩, ⟨z1, z2⟩⟩ := hp
  exact ⟨show _ < 8 by omega, show _ < 8 by omega, show _ < 8 by omega⟩
theorem rowsM_len {m : Mat} {q : PT4} {a n : Int} (h : a % q.g = 0 → PtOk m q a n) : (rowsM m q a n).length ≤ 800000 := by
  unfold rowsM
  split
  · rename_i hz
    have hN := (h hz).hn
    have := pts_len (Q m (lyU m q)) (dot (lyU m q) (image m (lyV m q))) (Q m (lyV m q)) (dot (lyS q a) (image m (lyU m q))) (dot (lyS q a) (image m (lyV m q))) (Q m (lyS q a) - n)
    have e : (sortR ((lyP m q a n).map (lyR m q a))).length = (lyP m q a n).length := by
      rw [(sortR_perm _).length_eq, List.length_map]
    rw [e]
    unfold lyP
    omega
  · exact Nat.zero_le _
end
end Cz

/-! CzS: lists of lists that a comprehension makes. -/
namespace Cz
open PySem PySem.Spec PyProof.Rows L2
/-- new lists, none of them at D -/
inductive LssN (K : PySem.W.Frag) (H H' : Hp) (D : Addr) : List V → List (List T) → Prop
  | nil : LssN K H H' D [] []
  | cons {b : Addr} {ws vs : List V} {xs : List T} {xss : List (List T)} : H b = none → b ≠ D → H' b = some (.lst ws) → Rps K H' ws xs → LssN K H H' D vs xss → LssN K H H' D (.ref b :: vs) (xs :: xss)
section
variable {K : PySem.W.Frag} {H H1 H2 : Hp} {D : Addr}
end
section
variable {K : PySem.W.Frag} {Γ : List D} {W : WX} {P : Po} {te ti : TE}
/-- xss[e], a list of the lists -/
theorem evl_ll {k : Nat} {j : Int} {xss : List (List T)} {xs : List T} (h : Γ[k]? = some (.ll xss)) (hi : Ev K ti Γ (.int j)) (hx : L2.atI xss j = some xs) : EvL K (tOp (rIxL K) (tVar k) ti) Γ xs := fun H0 A σ H Q E q => by
  have s := E.sl k _ h
  cases e : σ[k]? with
  | none => rw [e] at s; exact s.elim
  | some o => cases o with
    | none => rw [e] at s; exact s.elim
    | some v =>
      rw [e] at s
      obtain ⟨b, vs, rfl, lr, ls⟩ := s
      refine ⟨.ref b, e, hi H0 A σ H _ E fun w H1 s1 r1 => ?_⟩
      cases r1
      have E1 := E.mono s1
      have sl := E1.sl k _ h
      rw [e] at sl
      obtain ⟨b', vs', eb, lr', ls'⟩ := sl
      cases eb
      unfold L2.atI at hx
      cases ej : ixN xss.length j with
      | none => rw [ej] at hx; cases hx
      | some m =>
        rw [ej] at hx
        have hx' : xss[m]? = some xs := hx
        have hm : m < vs'.length := by rw [ls'.length]; exact (List.getElem?_eq_some_iff.mp hx').1
        obtain ⟨c, ws, xs', ev, ex, lc, rc⟩ := ls'.at' (List.getElem?_eq_getElem hm)
        rw [hx'] at ex
        cases ex
        refine ⟨b, vs', j, .ref c, rfl, rfl, lr'.1, ?_, q c ws H1 s1 lc.1 rc⟩
        unfold L2.atI
        rw [ls'.length, ej]
        show vs'[m]? = _
        rw [List.getElem?_eq_getElem hm, ev]
end
end Cz
namespace Cz
open PySem PySem.Spec PyProof.Rows L2 Kx
/-! the box as the law writes it -/
end Cz
namespace Cz
open PySem PySem.Spec PyProof.Rows L2 Kx
section
variable {K : PySem.W.Frag} {Γ : List D} {W : WX} {P : Po}
end
end Cz
namespace Cz
open PySem PySem.Spec PyProof.Rows L2 Kx
section
variable {K : PySem.W.Frag} {Γ Γ1 : List D} {ta tb : TE} {i j : Int}
end
end Cz
namespace Cz
open PySem PySem.Spec PyProof.Rows L2 Kx
end Cz

/-! CzT: an __init__ that is given lists. -/
namespace Cz
open PySem PySem.Spec PyProof.Rows L2
def unl : D → D
  | .l _ => .no
  | d => d
section
variable {K : PySem.W.Frag} {H0 H H' : Hp} {x dx C : Addr} {Γ : List D} {ns : List Str} {ts : List T} {σ : L2.St}
theorem Ini.from (h : Ini K H0 x dx C Γ ns ts σ H) : Same (hid H0 x) (hid H x) := hid_mono fun b o e n => h.keep b o e n
/-- with a list that the __init__ was given, in slot i -/
theorem Ini.envL (h : Ini K H0 x dx C Γ ns ts σ H) {i : Nat} {b : Addr} {vs : List V} {xs : List T} (hi : i ≠ 0) (e : σ[i]? = some (some (.ref b))) (s0 : SqL K (hid H0 x) b vs) (r0 : Rps K (hid H0 x) vs xs) : EnvD K (hid H x) H σ (Γ.set i (.l xs)) (fun _ => 0) := by
  have E := h.env
  have sm := h.from
  have m : Imm (hid H0 x) H := Imm.of_same (sm.trans hid_same)
  have nown : ∀ b', ¬ IsOwn (Γ.set i (.l xs)) (fun _ => 0) b' := fun b' ⟨j, ys, hj, _⟩ => by
    have hj' := own_of_set (d := .l xs) (fun zs z => by cases z) hj
    by_cases z : j = 0
    · subst z; rw [h.self'] at hj'; cases hj'
    · rcases h.slots j _ z hj' with q | ⟨v, t, _, q, _⟩ <;> cases q
  have q := E.put (k := i) (o := some (.ref b)) (d := .l xs) (fun zs z => by cases z) ⟨b, vs, rfl, (sm.trans hid_same).seq s0, fun z => absurd z (nown b), r0.mono m⟩
  have z : σ.set i (some (.ref b)) = σ := by
    apply List.ext_getElem?
    intro j
    by_cases z : i = j
    · subst z
      rw [List.getElem?_set_self (List.getElem?_eq_some_iff.mp e).1, e]
    · rw [List.getElem?_set_ne z]
  rw [z] at q
  exact q
/-- a, (b, c, d) = what gives data and a list of three, in an __init__ that was given a list -/
theorem i_asgTL3L {E : Ends} {te : TE} {i j k l m : Nat} {y a b c : T} {b' : Addr} {us : List V} {xs : List T} (h : Ini K H0 x dx C Γ ns ts σ H) (hm : m ≠ 0) (e' : σ[m]? = some (some (.ref b'))) (s0 : SqL K (hid H0 x) b' us) (r0 : Rps K (hid H0 x) us xs)
    (he : EvTL K te (Γ.set m (.l xs)) y [a, b, c]) (hp : plainT y = true ∧ plainT a = true ∧ plainT b = true ∧ plainT c = true) (hi : i ≠ 0 ∧ j ≠ 0 ∧ k ≠ 0 ∧ l ≠ 0)
    (q : ∀ σ' H', Ini K H0 x dx C ((((Γ.set i (.t y)).set j (.t a)).set k (.t b)).set l (.t c)) ns ts σ' H' → E.nx σ' H') :
    tAsg te (gTup K 2 (gCons (gName i) (gCons (gLst K 3 (gCons (gName j) (gCons (gName k) (gCons (gName l) gNil)))) gNil))) E σ H :=
  he _ _ σ H _ (h.envL hm e' s0 r0) fun a' w p vs H1 n1 s1 sq e1 r1 r2 => by
    have h1 := h.same s1
    obtain ⟨fs, e, en, rs⟩ := h1.flds
    cases r1 with
    | cons ra r1 => cases r1 with
      | cons rb r1 => cases r1 with
        | cons rc r1 => cases r1 with
          | nil =>
            refine ⟨a', _, rfl, sq, rfl, _, _, rfl, _, _, rfl, ⟨p, _, rfl, .of e1, rfl, _, _, rfl, _, _, rfl, _, _, rfl, rfl, rfl, ?_⟩⟩
            exact q _ _ ((((h1.set hi.1 (Rp.hide e r2 hp.1)).set hi.2.1 (Rp.hide e ra hp.2.1)).set hi.2.2.1 (Rp.hide e rb hp.2.2.1)).set hi.2.2.2 (Rp.hide e rc hp.2.2.2))
end
section
variable {P : Program} {w : World} {K : PySem.W.Frag} {mg : Str → Option Value} {base : Heap}
/-- an __init__ that may be given lists -/
theorem fn_iL {qual : Str} {st : Stmt} {f : Addr} {fd : FuncData} {N ps : List Str} {k : Nat} {C : Addr} {R : List D → Rs → Prop} (F : Fun K "__init__" qual st f fd) (S : FnScope N ps (defScope st)) (len : ∀ ds r, R ds r → ds.length + 1 = ps.length)
    (hbody : ∀ (cdv : Value) (A : Around) (outer : List Env) (s : Shared) (H : Hp) (E : XK), Room k (A.deeper (envOfC qual (defScope st) s.heap.objs.size f cdv)) →
      ∃ t, PSs (cxOf (L2.CX P w) P w K mg base N qual (defScope st) f cdv A outer s H E) (defBody st) t ∧ ∀ ds r x dx σ H (D : Ends), R ds r → Ini K H x dx C (startD N (.rf x :: ds.map unl)) [] [] σ H →
        (∀ j xs, ds[j]? = some (.l xs) → ∃ b vs, σ[j + 1]? = some (some (.ref b)) ∧ SqL K (hid H x) b vs ∧ Rps K (hid H x) vs xs) →
        (∀ H' ns ts G σ', r = .ok (.t (.obj C ns ts)) → Ini K H x dx C G ns ts σ' H' → D.nx σ' H') → (∀ H' Ce ns ts G σ', r = .er Ce → Ini K H x dx C G ns ts σ' H' → E (.ref Ce) none H') → t D σ H) : FnOk P w K mg base (L2.CX P w) (k + 1) f fd ps (spI K C R) := by
  refine F.okX S (fun vs H Q E h => ?_) (fun cdv A outer s H vs Q E hr h => ?_)
  · obtain ⟨x, dx, ws, ds, r, rfl, _, hR, ha, _⟩ := h
    rw [List.length_cons, ha.length]
    exact len ds r hR
  obtain ⟨x, dx, ws, ds, r, rfl, hx, hR, ha, q⟩ := h
  obtain ⟨t, ht, hs⟩ := hbody cdv A outer s H E hr
  have at2 : ∀ {j : Nat} {v : V}, ws[j]? = some v → (L2.start N (.ref x :: ws))[j + 1]? = some (some v) := fun {j v} hv => by
    have hj := (List.getElem?_eq_some_iff.mp hv).1
    unfold L2.start
    rw [List.map_cons, List.cons_append, List.getElem?_cons_succ, List.getElem?_append_left (by rw [List.length_map]; exact hj), List.getElem?_map, hv]
    rfl
  refine ⟨t, ht, hs ds r x dx _ H _ hR ⟨fun b o e _ => e, ⟨[], hx, rfl, .nil⟩, ?_, ?_, rfl, fun i d hi e => ?_⟩ (fun j xs hj => ?_) (fun H' ns ts G σ' e I => ?_) (fun H' Ce ns ts G σ' e I => ?_)⟩
  · have hl := ha.length
    unfold L2.start startD
    simp only [List.length_append, List.length_map, List.length_replicate, List.length_cons]
    omega
  · rfl
  · by_cases z : i < ds.length + 1
    · cases i with
      | zero => exact absurd rfl hi
      | succ j =>
        have e' : (ds.map unl)[j]? = some d := by
          unfold startD at e
          rw [List.cons_append, List.getElem?_cons_succ, List.getElem?_append_left (by rw [List.length_map]; omega)] at e
          exact e
        rw [List.getElem?_map] at e'
        obtain ⟨d', e2, rfl⟩ := Option.map_eq_some_iff.mp e'
        obtain ⟨v, hv, hd⟩ := ha.at' e2
        cases d' with
        | no => exact .inl rfl
        | t y => exact .inr ⟨v, y, at2 hv, rfl, hd⟩
        | l xs => exact .inl rfl
        | own xs => exact absurd e2 ha.noown
        | rf a => exact hd.elim
        | ll a => exact hd.elim
    · unfold startD at e
      rw [List.getElem?_append_right (by rw [List.length_cons, List.length_map]; omega), List.getElem?_replicate] at e
      split at e
      · cases e
        exact .inl rfl
      · cases e
  · obtain ⟨v, hv, b, vs, rfl, sq, rp⟩ := ha.at' hj
    exact ⟨b, vs, at2 hv, sq, rp⟩
  · subst e
    obtain ⟨_, q⟩ := q
    obtain ⟨fs, e, en, rs⟩ := I.flds
    exact q H' fs I.keep e en rs
  · subst e
    exact q H' I.keep
end
end Cz

namespace Cz
open PySem PySem.Spec PyProof.Rows L2 Kx
/-! ### a module's dict of ints: d.get(k) -/
/-- what the dict at a (written) holds -/
structure KDict (K : PySem.W.Frag) (a : Addr) (f : Int → T) : Prop where
  at_ : ∃ es n, K.lookup a = some ⟨.type "dict", none, .dict es n, #[]⟩ ∧ (a == sysModules) = false ∧ (∀ e ∈ es, ∃ i t, e.key = .int i t ∧ e.hash = hashInt i) ∧ ∀ k H, ∃ v, Rp K H v (f k) ∧ RelV v ((findBy Value.isInt es k).getD .none)
def tKGet (K : PySem.W.Frag) (f : Int → T) (ty : TE) : TE := fun σ H Q => ty σ H fun y H1 => ∃ k, y = .int k ∧ ∀ v, Rp K H1 v (f k) → Q v H1
section
variable {X : Cx} {o e : Expr} {apos cpos : Pos} {ty : TE} {a : Addr} {f : Int → T}
theorem pe_kget (K : PySem.W.Frag) (d : KDict K a f) (ho : PE X o (tC (.ref a))) (he : PE X e ty) (m : M1 X o "get" apos e cpos) (hK : X.K = K := by rfl) : PE X (.Call (.Attribute o "get" apos) [e] [] cpos) (tKGet K f ty) := by
  subst hK
  refine ⟨fun pins s σ H Q I h => ?_⟩
  obtain ⟨es, n, lk, hd, hk, hv⟩ := d.at_
  refine wpAny_Call_method m.base m.few m.line PySem.F.plainAttrs_dict PySem.F.slot_dict_get PySem.F.type_dict_get (thn (ho.run pins s σ H (fun x H1 => x = .ref a ∧ ty σ H1 fun y H1 => ∃ k, y = .int k ∧ ∀ v, Rp X.K H1 v (f k) → Q v H1) I ⟨rfl, h⟩) fun u s1 ⟨x, H1, I1, rx, ex, q1⟩ => ?_)
  subst ex
  obtain rfl : u = Value.ref a := rx
  have mo : ∀ {s2 : Shared} {H2 : Hp}, Inv X pins σ H2 s2 → s2.heap.MapOf (PySem.intKind X.prog X.w) a (fun k => findBy Value.isInt es k) := fun I2 =>
    ⟨_, es, n, I2.kIn _ _ lk, ⟨rfl, rfl, rfl⟩, rfl, fun e he => by
      obtain ⟨i, t, e1, e2⟩ := hk e he
      exact ⟨i, by rw [e1]; show Value.isInt i (.int i t) = true; simp [Value.isInt], e2⟩, fun _ => rfl⟩
  refine ⟨(mo I1).typeIs, (mo I1).noDict, ?_⟩
  rw [m.trees]
  refine Calls.callWith_builtin rfl (Calls.evalArgs_plain (Calls.spliced_cons (thn (he.run pins s1 σ H1 _ I1 q1) fun iv s2 ⟨y, H2, I2, ry, k, ey, q2⟩ => Calls.spliced_nil ?_)))
  subst ey
  obtain ⟨t, rfl⟩ := (show ∃ t, iv = Value.int k t from ry)
  refine call_meetsIn PySem.F.slot_dict_get (mo I2).typeIs PySem.F.entry_dict_get (PySem.F.args_dict_get_2 _ _) (meets_dict_get (PySem.intKind X.prog X.w) a (show Value.isInt k (.int k t) = true by simp [Value.isInt]) hd) ⟨_, mo I2, ?_⟩
  obtain ⟨v, rv, ev⟩ := hv k H2
  exact ⟨v, H2, I2.tok _, ev, q2 v rv⟩
end
section
variable {K : PySem.W.Frag} {Γ : List D} {W : WX} {P : Po} {ta tb tc : TE}
theorem ev_kget {f : Int → T} {k : Int} (ha : Ev K ta Γ (.int k)) : Ev K (tKGet K f ta) Γ (f k) := fun H0 A σ H Q E q =>
  ha H0 A σ H _ E fun v H1 s1 r1 => by
    cases r1
    exact ⟨k, rfl, fun v rv => q v H1 s1 rv⟩
end
/-! ### a row in a tuple of two rows -/
section
variable {K : PySem.W.Frag} {Γ : List D} {W : WX} {P : Po} {ta tb tc : TE}
theorem ev_min2 {i j : Int} (ha : Ev K ta Γ (.int i)) (hb : Ev K tb Γ (.int j)) : Ev K (tCB (fun xs H Q => ∃ i j, xs = [.int i, .int j] ∧ Q (.int (if j < i then j else i)) H) (tCons ta (tCons tb tNil))) Γ (.int (if j < i then j else i)) := fun H0 A σ H Q E q =>
  ha H0 A σ H _ E fun v H1 s1 r1 => hb H0 A σ H1 _ (E.mono s1) fun w H2 s2 r2 => by
    cases r1
    cases r2
    exact ⟨i, j, rfl, q _ H2 (s1.trans s2) (.int _)⟩
end
end Cz

namespace Kx
open PySem PyProof.Rows L2 Cz
/-! ## how mirrors meet -/
section
variable {A : Mat} {r s : Row}
/-- 4 (r, s) (r, s) / (n m) -/
def turnC (A : Mat) (r s : Row) : Int := 4 * bil A r s * bil A r s / (Q A r * Q A s)
end
/-- what meet tells -/
def turnT (c : Int) : T := if c = 0 then .int 2 else if c = 1 then .int 3 else if c = 2 then .int 4 else if c = 3 then .int 6 else if c = 4 then .int 0 else .non
end Kx
namespace Cz
open PySem PyProof.Rows L2 Kx
section
variable {K : PySem.W.Frag} {Γ : List D} {W : WX} {P : Po} {ta tb tc : TE}
theorem kdict_turns {a : Addr} {n : Nat} {t0 t1 t2 t3 t4 u0 u1 u2 u3 u4 : Tok} (l : K.lookup a = some ⟨.type "dict", none, .dict #[⟨0, .int 0 t0, .int 2 u0⟩, ⟨1, .int 1 t1, .int 3 u1⟩, ⟨2, .int 2 t2, .int 4 u2⟩, ⟨3, .int 3 t3, .int 6 u3⟩, ⟨4, .int 4 t4, .int 0 u4⟩] n, #[]⟩) (hd : (a == sysModules) = false) : KDict K a turnT := by
  refine ⟨_, n, l, hd, ?_, ?_⟩
  · intro e he
    simp only [List.mem_toArray, List.mem_cons, List.not_mem_nil, or_false] at he
    rcases he with rfl | rfl | rfl | rfl | rfl
    · exact ⟨_, _, rfl, (by decide : (0 : Int) = hashInt 0)⟩
    · exact ⟨_, _, rfl, (by decide : (1 : Int) = hashInt 1)⟩
    · exact ⟨_, _, rfl, (by decide : (2 : Int) = hashInt 2)⟩
    · exact ⟨_, _, rfl, (by decide : (3 : Int) = hashInt 3)⟩
    · exact ⟨_, _, rfl, (by decide : (4 : Int) = hashInt 4)⟩
  · intro k H
    by_cases h0 : k = 0
    · subst h0; exact ⟨.int 2, .int _, u0, rfl⟩
    by_cases h1 : k = 1
    · subst h1; exact ⟨.int 3, .int _, u1, rfl⟩
    by_cases h2 : k = 2
    · subst h2; exact ⟨.int 4, .int _, u2, rfl⟩
    by_cases h3 : k = 3
    · subst h3; exact ⟨.int 6, .int _, u3, rfl⟩
    by_cases h4 : k = 4
    · subst h4; exact ⟨.int 0, .int _, u4, rfl⟩
    · refine ⟨.non, ?_, ?_⟩
      · unfold turnT
        rw [if_neg h0, if_neg h1, if_neg h2, if_neg h3, if_neg h4]
        exact .non
      · have e : findBy Value.isInt #[⟨0, .int 0 t0, .int 2 u0⟩, ⟨1, .int 1 t1, .int 3 u1⟩, ⟨2, .int 2 t2, .int 4 u2⟩, ⟨3, .int 3 t3, .int 6 u3⟩, ⟨4, .int 4 t4, .int 0 u4⟩] k = none := by
          simp [findBy, Value.isInt, Ne.symm h0, Ne.symm h1, Ne.symm h2, Ne.symm h3, Ne.symm h4]
        rw [e]
        rfl
end
end Cz

/-! LN: sorted of pairs (a number, a row). -/
namespace Cz
open PySem PySem.Spec PyProof.Rows L2 Kx PySem.W
abbrev NR := Int × Row
def pkey (p : NR) : List Int := p.1 :: rkey p.2
def pairD (p : NR) : PyData := .tuple [.int p.1, rowD p.2]
def pairLe (p q : NR) : Bool := decide (pkey p ≤ pkey q)
def sortP (ps : List NR) : List NR := ps.mergeSort pairLe
def tupP (p : NR) : T := .tup [.int p.1, row p.2]
theorem dataLt_row (p q : Row) : dataLt (rowD p) (rowD q) = decide (rkey p < rkey q) := by
  unfold rowD
  rw [dataLt_tuple]
  show rowLt ((rkey p).map .int) ((rkey q).map .int) = _
  rw [dataLt_ints]
theorem dataLt_nr (p q : NR) : dataLt (pairD p) (pairD q) = decide (pkey p < pkey q) := by
  unfold pairD
  have e1 : PyData.eqv (.int p.1) (.int q.1) = decide (p.1 = q.1) := eqv_int _ _
  have e2 : PyData.eqv (rowD p.2) (rowD q.2) = decide (p.2 = q.2) := eqv_row p.2 q.2
  rw [dataLt_pair (by simp [alike]) (by simp [rowD, alike, alikeAll]), e1, e2, dataLt_row, dataLt_int]
  unfold pkey
  rw [Bool.eq_iff_iff, decide_eq_true_eq (p := p.1 :: rkey p.2 < q.1 :: rkey q.2), List.cons_lt_cons_iff]
  by_cases h1 : p.1 = q.1
  · rw [if_pos (decide_eq_true h1)]
    by_cases h2 : p.2 = q.2
    · rw [if_pos (decide_eq_true h2)]
      constructor
      · intro h; cases h
      · rintro (h | ⟨_, h⟩)
        · omega
        · rw [h2] at h
          exact absurd h (List.lt_irrefl _)
    · rw [if_neg (fun z => h2 (of_decide_eq_true z)), decide_eq_true_eq]
      exact ⟨fun h => .inr ⟨h1, h⟩, fun h => by
        rcases h with h | h
        · omega
        · exact h.2⟩
  · rw [if_neg (fun z => h1 (of_decide_eq_true z)), decide_eq_true_eq]
    exact ⟨fun h => .inl h, fun h => by
      rcases h with h | h
      · exact h
      · exact absurd h.1 h1⟩
theorem dataLe_nr {β : Type} (k : β → NR) : dataLe false (fun b => pairD (k b)) = fun p q => pairLe (k p) (k q) := by
  funext p q
  show (!dataLt (pairD (k q)) (pairD (k p))) = decide _
  rw [dataLt_nr]
  by_cases h : pkey (k q) < pkey (k p)
  · have h' : ¬ pkey (k p) ≤ pkey (k q) := fun r => List.not_lt.mpr r h
    simp [h, h']
  · have h' : pkey (k p) ≤ pkey (k q) := List.not_lt.mp h
    simp [h, h']
theorem sortP_mem {ps : List NR} {p : NR} : p ∈ sortP ps ↔ p ∈ ps := List.mem_mergeSort
theorem sortP_perm (ps : List NR) : (sortP ps).Perm ps := List.mergeSort_perm _ _
theorem sortP_le (ps : List NR) : (sortP ps).Pairwise fun p q => pkey p ≤ pkey q :=
  (List.pairwise_mergeSort (le := pairLe) (fun a b c h1 h2 => decide_eq_true (List.le_trans (of_decide_eq_true h1) (of_decide_eq_true h2))) (fun a b => by
    rcases List.le_total (pkey a) (pkey b) with h | h
    · simp [pairLe, h]
    · simp [pairLe, h]) ps).imp fun h => of_decide_eq_true h
theorem pkey_inj {p q : NR} (h : pkey p = pkey q) : p = q := by
  unfold pkey at h
  injection h with h1 h2
  exact Prod.ext h1 (rkey_inj h2)
theorem sortP_unique {ps qs : List NR} (hp : qs.Perm ps) (hs : qs.Pairwise fun p q => pkey p ≤ pkey q) : sortP ps = qs :=
  List.Perm.eq_of_pairwise (le := fun p q => pkey p ≤ pkey q) (fun a b _ _ h1 h2 => pkey_inj (List.le_antisymm h1 h2)) (sortP_le ps) hs ((sortP_perm ps).trans hp.symm)
def rSortedP (K : PySem.W.Frag) : List V → Hp → VK → Prop := fun vs H Q => ∃ (a : Addr) (bs : List (V × NR)), vs = [V.ref a] ∧ SqL K H a (bs.map (·.1)) ∧
  (∀ b ∈ bs, ∃ t u, b.1 = .ref t ∧ SqT K H t [.int b.2.1, .ref u] ∧ SqT K H u [.int b.2.2.x, .int b.2.2.y, .int b.2.2.z]) ∧
  ∀ (cs : List (V × NR)) (p : Addr), cs.Perm bs → cs.map (·.2) = sortP (bs.map (·.2)) → H p = none → Q (.ref p) (upd H p (.lst (cs.map (·.1))))
section
variable {X : Cx}
theorem eachIs_valsP : ∀ {bs : List (V × NR)} {its : List Value}, Vals (bs.map (·.1)) its → EachIs (fun v (b : V × NR) => RelV b.1 v) its bs
  | [], _, .nil => .nil
  | b :: bs, _, .cons r t => .cons r (eachIs_valsP t)
theorem vals_eachIsP : ∀ {bs : List (V × NR)} {its : List Value}, EachIs (fun v (b : V × NR) => RelV b.1 v) its bs → Vals (bs.map (·.1)) its
  | _, _, .nil => .nil
  | _, _, .cons r t => .cons r (vals_eachIsP t)
theorem cr_sortedP (hu : X.A.units + 64 < cLine) : CallR X (.builtin "sorted") (rSortedP X.K) := by
  intro pins s σ H vs us Q I r h
  obtain ⟨a, bs, rfl, hs, ht, q⟩ := h
  obtain ⟨its, rv, hl, hz⟩ := I.list hs
  rw [Vals.ref1 r]
  have e := eachIs_valsP rv
  have er : EachIs (fun v (b : V × NR) => ∃ as, Reads s.heap v (pairD b.2) as) its bs := (each_mem e).mono fun v b ⟨hv, hb⟩ => by
    obtain ⟨t, u, e1, sq, sq2⟩ := ht b hb
    rw [e1] at hv
    cases hv
    obtain ⟨vs, r3, ⟨o, ho, hc, n, hd⟩, _⟩ := I.tuple sq
    obtain ⟨vs2, r4, ⟨o2, ho2, hc2, n2, hd2⟩, _⟩ := I.tuple sq2
    obtain ⟨as, ra⟩ := vals_ints3 r4 s.heap
    obtain ⟨x1, x2, rfl, ⟨t1, rfl⟩, h2⟩ := vals2 r3
    cases h2
    exact ⟨_, .tuple ho hc hd (by simpa [rowD] using ReadsAll.cons (.int _ t1) (.cons (.tuple ho2 hc2 hd2 (by simpa using ra)) .nil))⟩
  refine sorted_data (enc := fun b : V × NR => pairD b.2) (R := fun v b => RelV b.1 v) hl.isList e er (AllAlike.of fun b b' => by simp [pairD, rowD, alike, alikeAll]) (Sortable.tuples fun b => ⟨_, _, rfl⟩) (by rw [List.length_map] at hz; exact hz) (fun b hb => by
    have : (pairD b.2).depth ≤ 10 := by simp [pairD, rowD, PyData.depth, PyData.depthAll]
    omega) fun out hlen ho => ?_
  rw [dataLe_nr (fun b : V × NR => b.2)] at ho
  obtain ⟨ep, he'⟩ := PyProof.Rows.sortedAll_at s.heap its out.toArray
  have hperm := List.mergeSort_perm bs fun p q => pairLe p.2 q.2
  refine ⟨.ref _, upd H (s.heap.objs.size + 1) (.lst ((bs.mergeSort fun p q => pairLe p.2 q.2).map (·.1))), I.laid (t' := s.toks) (fun _ _ => PyProof.Rows.sortedAll_old) (Nat.le_succ _) ⟨?_, out, ep, vals_eachIsP ho, he'⟩, rfl, q _ _ hperm (List.map_mergeSort fun a _ b _ => rfl) (I.hok.fresh (Nat.le_succ _))⟩
  rw [List.length_map, hperm.length_eq]
  rw [List.length_map] at hz
  exact hz
theorem keptN_any {α : Type} {g : α → T} {f' : α → T} {c : Nat → Bool} {f : Nat → T} {rs : List α} {p : α → Bool} (h : ∀ i r, rs[i]? = some r → c i = p r ∧ f i = f' r) : keptN c f (rs.map g).length = (rs.filter p).map f' := by
  have e : ∀ n, n ≤ rs.length → keptN c f n = ((rs.take n).filter p).map f' := by
    intro n
    induction n with
    | zero => intro _; rfl
    | succ n ih =>
      intro hn
      have hx : rs[n]? = some rs[n] := List.getElem?_eq_getElem hn
      obtain ⟨e1, e2⟩ := h n _ hx
      rw [keptN_succ, ih (by omega), take_snoc hx, List.filter_append, List.map_append, e1, e2]
      by_cases e : p rs[n] = true
      · rw [if_pos e]; simp [e]
      · rw [if_neg e]; simp [e]
  rw [List.length_map, e _ (Nat.le_refl _), List.take_length]
theorem ck_sortedP (K : PySem.W.Frag) (hu : X.A.units + 64 < cLine) (hK : X.K = K := by rfl) : CallR X (.builtin "sorted") (rSortedP K) := by subst hK; exact cr_sortedP hu
end
section
variable {K : PySem.W.Frag} {Γ : List D} {W : WX} {P : Po} {ta : TE}
theorem Rps.zipP {H : Hp} : ∀ {vs : List V} {ps : List NR}, Rps K H vs (ps.map tupP) → ∃ bs : List (V × NR), bs.map (·.1) = vs ∧ bs.map (·.2) = ps ∧ ∀ b ∈ bs, Rp K H b.1 (tupP b.2)
  | _, [], .nil => ⟨[], rfl, rfl, fun _ h => nomatch h⟩
  | _, r :: rs, .cons (v := v) h t => by
    obtain ⟨bs, h1, h2, h3⟩ := Rps.zipP t
    refine ⟨(v, r) :: bs, by rw [List.map_cons, h1], by rw [List.map_cons, h2], fun b hb => ?_⟩
    rcases List.mem_cons.1 hb with e | hb
    · subst e
      exact h
    · exact h3 b hb
theorem Rps.unzipP {H : Hp} : ∀ {bs : List (V × NR)}, (∀ b ∈ bs, Rp K H b.1 (tupP b.2)) → Rps K H (bs.map (·.1)) ((bs.map (·.2)).map tupP)
  | [], _ => .nil
  | b :: bs, h => .cons (h b List.mem_cons_self) (Rps.unzipP fun c hc => h c (List.mem_cons_of_mem _ hc))
theorem rp_nr {H : Hp} {v : V} {p : NR} (h : Rp K H v (tupP p)) : ∃ t u, v = .ref t ∧ SqT K H t [.int p.1, .ref u] ∧ SqT K H u [.int p.2.x, .int p.2.y, .int p.2.z] := by
  cases h with
  | tup sq rs =>
    cases rs with
    | cons a rs => cases rs with
      | cons b rs => cases rs with
        | nil =>
          cases a
          obtain ⟨u, rfl, su⟩ := rp_row b
          exact ⟨_, u, rfl, sq, su⟩
theorem evf_sortedP {ps : List NR} (h : EvL K ta Γ (ps.map tupP)) : EvF K (tCB (rSortedP K) (tCons ta tNil)) Γ ((sortP ps).map tupP) := fun H0 A σ H Q E q =>
  h H0 A σ H _ E fun b vs H1 s1 sq r => by
    obtain ⟨bs, e1, e2, hb⟩ := Rps.zipP r
    refine ⟨b, bs, rfl, by rw [e1]; exact sq, fun c hc => rp_nr (hb c hc), fun cs p hp he hn => ?_⟩
    rw [e2] at he
    refine q p _ _ (s1.free hn) (s1.trans (same_upd hn)) upd_same ?_
    rw [← he]
    exact Rps.unzipP fun c hc => Rp.mono (Imm.of_same (same_upd hn)) (hb c (hp.mem_iff.1 hc))
/-- [r for d, r in ps if test] -/
theorem evf_lcNR {tl te : TE} {tt : TT} {i j : Nat} {ps : List NR} (c : NR → Bool) (f : NR → T) (hij : i ≠ j) (hl : EvL K tl Γ (ps.map tupP)) (z : ps.length < 1000000)
    (h : ∀ p ∈ ps, EvB K tt (((wipeD Γ [i, j]).set i (.t (.int p.1))).set j (.t (row p.2))) (c p) ∧ (c p = true → Ev K te (((wipeD Γ [i, j]).set i (.t (.int p.1))).set j (.t (row p.2))) (f p))) :
    EvF K (tLc (iList K tl) (gTup K 2 (gCons (gName i) (gCons (gName j) gNil))) tt te [i, j]) Γ ((ps.filter c).map f) := by
  refine evf_eq (evf_compL (fun k => c (ps.getD k ⟨0, ⟨0, 0, 0⟩⟩)) (fun k => f (ps.getD k ⟨0, ⟨0, 0, 0⟩⟩)) hl (by rw [List.length_map]; exact z) fun k x hx => ?_) ?_
  · rw [List.getElem?_map] at hx
    cases e : ps[k]? with
    | none => rw [e] at hx; cases hx
    | some p =>
      rw [e] at hx
      cases hx
      have e2 : ps.getD k ⟨0, ⟨0, 0, 0⟩⟩ = p := by simp [List.getD, e]
      rw [e2]
      obtain ⟨h1, h2⟩ := h p (List.mem_of_getElem? e)
      exact ⟨_, gv_tup rfl (gvs_cons (gv_name i _ (by simp)) (gvs_cons (gv_name j _ (by simp)) gvs_nil)), h1, h2⟩
  · refine keptN_any fun k x hx => ?_
    have e2 : ps.getD k ⟨0, ⟨0, 0, 0⟩⟩ = x := by simp [List.getD, hx]
    rw [e2]
    exact ⟨rfl, rfl⟩
end
end Cz

/-! MA: outward roots up to a depth. -/
namespace Cz
open PySem PySem.Spec PyProof.Rows L2 Kx
section
variable {K : PySem.W.Frag} {Γ : List D}
/-- [e for r in rows if test] -/
theorem evf_lcRow {tl te : TE} {tt : TT} {i : Nat} {rs : List Row} (c : Row → Bool) (f : Row → T) (hl : EvL K tl Γ (rs.map row)) (z : rs.length < 1000000)
    (h : ∀ r ∈ rs, EvB K tt ((wipeD Γ [i]).set i (.t (row r))) (c r) ∧ (c r = true → Ev K te ((wipeD Γ [i]).set i (.t (row r))) (f r))) : EvF K (tLc (iList K tl) (gName i) tt te [i]) Γ ((rs.filter c).map f) := by
  refine evf_eq (evf_compL (fun k => c (rs.getD k ⟨0, 0, 0⟩)) (fun k => f (rs.getD k ⟨0, 0, 0⟩)) hl (by rw [List.length_map]; exact z) fun k x hx => ?_) ?_
  · rw [List.getElem?_map] at hx
    obtain ⟨r, hr, rfl⟩ := Option.map_eq_some_iff.mp hx
    have e2 : rs.getD k ⟨0, 0, 0⟩ = r := by simp [List.getD, hr]
    rw [e2]
    obtain ⟨h1, h2⟩ := h r (List.mem_of_getElem? hr)
    exact ct1 h1 h2
  · refine keptN_any fun k x hx => ?_
    have e2 : rs.getD k ⟨0, 0, 0⟩ = x := by simp [List.getD, hx]
    rw [e2]
    exact ⟨rfl, rfl⟩
end
/-! ### what is listed -/
def bareB (v : Row) : Bool := decide ((bareN v : Int) = 1)
def kindN (n : Int) : Int := n / gI n 2
theorem kindN_pos {n : Int} (h : 0 < n) : 0 < kindN n := by
  unfold kindN
  have e : gI n 2 = gI 2 n := by unfold gI; rw [Nat.gcd_comm]
  rw [e]
  exact narrow_pos h
def layN (m : Mat) (p : Row) (n : Int) : PT4 := layQ m p (kindN n)
def orR (m : Mat) (p : Row) (n a : Int) : List Row := ((rowsM m (layN m p n) (-a) n).filter bareB).filter (outB m p)
def orE (m : Mat) (p : Row) (n a : Int) : List NR := (orR m p n a).map fun r => (a * a * (2 * lastM m / n), r)
def orC (m : Mat) (p : Row) (b n : Int) : Nat := rgN 0 (isq (b * n) + 1) (layN m p n).g
def orN (m : Mat) (p : Row) (b n : Int) : List NR := (List.range (orC m p b n)).flatMap fun (i : Nat) => orE m p n (0 + (i : Int) * (layN m p n).g)
def orP (m : Mat) (p : Row) (b : Int) : List NR := (kindsM m).flatMap (orN m p b)
/-- the sizes of the rows of a narrowed lattice, on the way -/
structure LatSm (m : Mat) (N : Int) : Prop where
  a : (narM unitM m.a N).sm 50
  b : (narM (narM unitM m.a N) m.b N).sm 50
  c : (latM m N).sm 50
/-- what is asked of a form, a row and a depth -/
structure OutOk (m : Mat) (p : Row) (b : Int) : Prop where
  lat : ∀ n ∈ kindsM m, LatSm m (kindN n)
  lay : ∀ n ∈ kindsM m, LayOk m (layN m p n) 300
  pt : ∀ n ∈ kindsM m, ∀ i, i < orC m p b n → PtOk m (layN m p n) (-(0 + (i : Int) * (layN m p n).g)) n
  gs : ∀ n ∈ kindsM m, (layN m p n).g < 1073741824
  len : (orP m p b).length ≤ 1000000
theorem rowsM_sm {m : Mat} {q : PT4} {a n : Int} {k : Nat} (hL : LayOk m q k) (ha : Sm k a) (hn : Sm k n) (hp : a % q.g = 0 → PtOk m q a n) {r : Row} (h : r ∈ rowsM m q a n) : r.sm (40 * k + 700) := by
  obtain ⟨hm, hs, hg, hpd, ht, hu2, hv2, hgs, hk⟩ := hL
  have hE := short_end hs hpd
  have hSz : 0 < ptS (Q m (lyU m q)) (dot (lyU m q) (image m (lyV m q))) (Q m (lyV m q)) := hE.pd.d
  unfold rowsM at h
  split at h
  · rename_i hz
    have hS : (lyS q a).sm (2 * k) := lyS_sm ht ha
    obtain ⟨hN, hZ⟩ := hp hz
    have n1 : Sm (4 * k + 30) (Q m (lyU m q)) := (sm_dot hu2 (sm_image hm hu2)).mono (by omega)
    have n2 : Sm (4 * k + 30) (dot (lyU m q) (image m (lyV m q))) := (sm_dot hu2 (sm_image hm hv2)).mono (by omega)
    have n3 : Sm (4 * k + 30) (Q m (lyV m q)) := (sm_dot hv2 (sm_image hm hv2)).mono (by omega)
    have n4 : Sm (4 * k + 30) (dot (lyS q a) (image m (lyU m q))) := (sm_dot hS (sm_image hm hu2)).mono (by omega)
    have n5 : Sm (4 * k + 30) (dot (lyS q a) (image m (lyV m q))) := (sm_dot hS (sm_image hm hv2)).mono (by omega)
    have n6' : Sm (4 * k + 29) (Q m (lyS q a)) := (sm_dot hS (sm_image hm hS)).mono (by omega)
    have n6 : Sm (4 * k + 30) (Q m (lyS q a) - n) := (n6'.sub2 (hn.mono (by omega)))
    rw [sortR_mem] at h
    obtain ⟨⟨x, y⟩, hxy, rfl⟩ := List.mem_map.mp h
    obtain ⟨hx, hy⟩ := pts_sm hSz n1 n2 n3 n4 n5 n6 hZ hxy
    have hsh : (shR (lyS q a) (lyU m q) x).sm (20 * k + 300) := shR_sm hS hu2 hx (by omega)
    exact shR_sm hsh hv2 hy (by omega)
  · cases h
theorem kinds_mem {m : Mat} {n : Int} (h : n ∈ kindsM m) : 0 < n ∧ n ≤ 2 * lastM m := by
  unfold kindsM at h
  have h1 := (List.mem_filter.mp h).1
  rw [rngI_mem] at h1
  omega
end Cz
namespace Cz
open PySem PySem.Spec PyProof.Rows L2 Kx
section
variable {K : PySem.W.Frag} {Γ : List D}
theorem evf_lcG {i : Nat} {tl te : TE} {α : Type} {ws : List α} (g f : α → T) (hl : EvL K tl Γ (ws.map g)) (z : ws.length < 1000000) (h : ∀ w ∈ ws, Ev K te ((wipeD Γ [i]).set i (.t (g w))) (f w)) : EvF K (tLc (iList K tl) (gName i) tYes te [i]) Γ (ws.map f) := by
  refine evf_lcL (ws.map f) hl (by rw [List.length_map, List.length_map]) (by rw [List.length_map]; exact z) fun j x y hx hy => ?_
  rw [List.getElem?_map] at hx hy
  cases e : ws[j]? with
  | none => rw [e] at hx; cases hx
  | some w =>
    rw [e] at hx hy
    cases hx
    cases hy
    exact h w (List.mem_of_getElem? e)
end
/-! ### walls -/
def omT (p : Row) (rs : List Row) (r : Row) : List Int := (rs.filter fun s => !decide (s = r)).map fun s => det ⟨p, r, s⟩
def omB (p : Row) (rs : List Row) (r : Row) : Bool := ((omT p rs r).map fun t => decide (t > 0)).all id || ((omT p rs r).map fun t => decide (t < 0)).all id
def omM (p : Row) (rs : List Row) : List Row := rs.filter (omB p rs)
def waB (m : Mat) (ws : List Row) (q : NR) : Bool := decide (q.1 > 0) && ((ws.map fun w => decide (dot (image m w) q.2 ≤ 0)).all id)
def waS (m : Mat) (ws : List Row) (q : NR) : List Row := if waB m ws q = true then ws ++ [q.2] else ws
def wa0 (p : Row) (ps : List NR) : List Row := omM p ((ps.filter fun q => decide (q.1 = 0)).map (·.2))
def waM (m : Mat) (p : Row) (ps : List NR) : List Row := ps.foldl (waS m) (wa0 p ps)
theorem waS_mem {m : Mat} {ws : List Row} {q : NR} {r : Row} (h : r ∈ waS m ws q) : r ∈ ws ∨ r = q.2 := by
  unfold waS at h
  split at h
  · rcases List.mem_append.mp h with h | h
    · exact .inl h
    · exact .inr (List.mem_singleton.mp h)
  · exact .inl h
theorem wa_mem {m : Mat} {P : Row → Prop} : ∀ (qs : List NR) (ws : List Row), (∀ w ∈ ws, P w) → (∀ q ∈ qs, P q.2) → ∀ r ∈ qs.foldl (waS m) ws, P r
  | [], ws, h, _ => h
  | q :: qs, ws, h, hq => wa_mem qs _ (fun w hw => by
      rcases waS_mem hw with h1 | h1
      · exact h w h1
      · rw [h1]; exact hq q (List.mem_cons_self ..)) (fun x hx => hq x (List.mem_cons_of_mem _ hx))
theorem wa_len {m : Mat} : ∀ (qs : List NR) (ws : List Row), (qs.foldl (waS m) ws).length ≤ ws.length + qs.length
  | [], ws => Nat.le_refl _
  | q :: qs, ws => by
    have h := wa_len (m := m) qs (waS m ws q)
    have h2 : (waS m ws q).length ≤ ws.length + 1 := by
      unfold waS
      split
      · rw [List.length_append, List.length_singleton]
        exact Nat.le_refl _
      · omega
    show (qs.foldl (waS m) (waS m ws q)).length ≤ _
    rw [List.length_cons]
    omega
end Cz

/-! MB: the narrowed lattices of the 459 rooms, by evaluation. -/
namespace Cz
open PySem PySem.Spec PyProof.Rows L2 Kx
def rowB40 (b : Nat) (v : Row) : Bool := decide (v.x.natAbs < b) && (decide (v.y.natAbs < b) && decide (v.z.natAbs < b))
def matB40 (b : Nat) (m : Mat) : Bool := rowB40 b m.a && (rowB40 b m.b && rowB40 b m.c)
def latB (m : Mat) (N : Int) : Bool := matB40 1048576 (narM unitM m.a N) && (matB40 1048576 (narM (narM unitM m.a N) m.b N) && matB40 1048576 (latM m N))
def layB (m : Mat) (p : Row) (N : Int) : Bool := rowB40 1073741824 (layQ m p N).r && (rowB40 1073741824 (layQ m p N).s && (rowB40 1073741824 (layQ m p N).t && decide ((layQ m p N).g < 1073741824)))
def roomB (n : Int) : Bool := decide (lastM (choF n) ≤ 500) && (kindsM (choF n)).all fun k => latB (choF n) (kindN k) && layB (choF n) (choP n) (kindN k)
theorem rooms_a : (List.range 459).all (fun i => roomB (i : Nat)) = true := by decide +kernel
theorem room_b (n : Int) : roomB n = true := cho_all (p := roomB) (fun n => by unfold roomB; rw [← choF_mod, ← choP_mod]) rooms_a n
theorem row_sm {b k : Nat} {v : Row} (h : rowB40 b v = true) (e : b = 2 ^ k) : v.sm k := by
  subst e
  unfold rowB40 at h
  rw [Bool.and_eq_true, Bool.and_eq_true, decide_eq_true_eq, decide_eq_true_eq, decide_eq_true_eq] at h
  exact ⟨h.1, h.2.1, h.2.2⟩
theorem mat_sm {b k : Nat} {m : Mat} (h : matB40 b m = true) (e : b = 2 ^ k) : m.sm k := by
  unfold matB40 at h
  rw [Bool.and_eq_true, Bool.and_eq_true] at h
  exact ⟨row_sm h.1 e, row_sm h.2.1 e, row_sm h.2.2 e⟩
theorem isq_small {x : Int} (h : x ≤ 500000) (h0 : 0 ≤ x) : 0 ≤ isq x ∧ isq x ≤ 1000 := by
  have h1 := isq_nn x
  have h2 := (isq_spec h0).1
  refine ⟨h1, Int.not_lt.1 fun z => ?_⟩
  have := Int.mul_le_mul (show (1001 : Int) ≤ isq x by omega) (show (1001 : Int) ≤ isq x by omega) (by decide) h1
  omega
/-- what is asked of the lattices of a room, but the number of pairs -/
theorem room_lat (n : Int) {b : Int} (hb0 : 0 ≤ b) (hb1 : b ≤ 500) : lastM (choF n) ≤ 500 ∧ ∀ k ∈ kindsM (choF n), LatSm (choF n) (kindN k) ∧ LayOk (choF n) (layN (choF n) (choP n) k) 300 ∧
    (∀ i, i < orC (choF n) (choP n) b k → PtOk (choF n) (layN (choF n) (choP n) k) (-(0 + (i : Int) * (layN (choF n) (choP n) k).g)) k) ∧ (layN (choF n) (choP n) k).g < 1073741824 := by
  obtain ⟨hA, hq, hp⟩ := cho_ok n
  have hB := room_b n
  unfold roomB at hB
  rw [Bool.and_eq_true, List.all_eq_true, decide_eq_true_eq] at hB
  refine ⟨hB.1, fun k hk => ?_⟩
  have h := hB.2 k hk
  obtain ⟨hk0, hk1⟩ := kinds_mem hk
  have hN := kindN_pos hk0
  rw [Bool.and_eq_true] at h
  obtain ⟨hl, hy⟩ := h
  unfold latB at hl
  unfold layB at hy
  rw [Bool.and_eq_true, Bool.and_eq_true] at hl
  rw [Bool.and_eq_true, Bool.and_eq_true, Bool.and_eq_true, decide_eq_true_eq] at hy
  have hs : (choF n).sm 10 := items_sm (formOk_items hA)
  have L := lat_ok hA hq hN
  have y1 : (layQ (choF n) (choP n) (kindN k)).r.sm 30 := row_sm hy.1 (by decide)
  have y2 : (layQ (choF n) (choP n) (kindN k)).s.sm 30 := row_sm hy.2.1 (by decide)
  have y3 : (layQ (choF n) (choP n) (kindN k)).t.sm 30 := row_sm hy.2.2.1 (by decide)
  have y4 := hy.2.2.2
  show LatSm _ _ ∧ LayOk _ (layQ (choF n) (choP n) (kindN k)) 300 ∧ (∀ i, i < orC (choF n) (choP n) b k → PtOk _ (layQ (choF n) (choP n) (kindN k)) (-(0 + (i : Int) * (layQ (choF n) (choP n) (kindN k)).g)) k) ∧ (layQ (choF n) (choP n) (kindN k)).g < 1073741824
  have eC : orC (choF n) (choP n) b k = rgN 0 (isq (b * k) + 1) (layQ (choF n) (choP n) (kindN k)).g := rfl
  rw [eC]
  generalize layQ (choF n) (choP n) (kindN k) = q at *
  have q1 : Sm 106 (Q (choF n) q.s) := (sm_dot y2 (sm_image hs y2)).mono (by decide)
  have q2 : Sm 106 (Q (choF n) q.t) := (sm_dot y3 (sm_image hs y3)).mono (by decide)
  have ss := short_sm L.hs L.pd (n := 44) (y2.mono (by decide)) (y3.mono (by decide)) q1 q2
  have hg := L.g
  have hgs : Sm 30 q.g := by
    unfold Sm
    omega
  refine ⟨⟨(mat_sm hl.1 (show 1048576 = 2 ^ 20 by decide)).mono (by decide), (mat_sm hl.2.1 (show 1048576 = 2 ^ 20 by decide)).mono (by decide), (mat_sm hl.2.2 (show 1048576 = 2 ^ 20 by decide)).mono (by decide)⟩,
    ⟨hs.mono (by decide), L.hs, hg, L.pd, y1.mono (by decide), ss.1.mono (by decide), ss.2.mono (by decide), hgs.mono (by decide), by decide⟩, fun i hi => ?_, y4⟩
  have hbn0 : 0 ≤ b * k := Int.mul_nonneg hb0 (by omega)
  have hbn1 : b * k ≤ 500000 := by
    have := Int.mul_le_mul hb1 (show k ≤ 1000 by omega) (by omega) (by decide)
    omega
  obtain ⟨z0, z1⟩ := isq_small hbn1 hbn0
  have hlt := rgN_lt hg hi
  have ha0 : 0 ≤ (i : Int) * q.g := Int.mul_nonneg (by omega) (by omega)
  have e0 : -(0 + (i : Int) * q.g) = (-(i : Int)) * q.g := by rw [Int.zero_add, Int.neg_mul]
  have hz : (-(0 + (i : Int) * q.g)) % q.g = 0 := by
    rw [e0]
    exact Int.mul_emod_left _ _
  have hdiv : (-(0 + (i : Int) * q.g)) / q.g = -(i : Int) := by
    rw [e0]
    exact Int.mul_ediv_cancel _ (by omega)
  have hi1 : (i : Int) ≤ 1024 := by
    have : (i : Int) * 1 ≤ (i : Int) * q.g := Int.mul_le_mul_of_nonneg_left (by omega) (by omega)
    omega
  refine pt_ok hA hq L hz (by omega) (by omega) ?_
  have rl : q.r.le 1073741824 := le_of_sm y1
  have sl : (lyS q (-(0 + (i : Int) * q.g))).le (1024 * 1073741824) := by
    unfold lyS
    rw [hdiv]
    exact scR_le rl (by omega) (by decide)
  have := q_le hs sl (by decide)
  exact Int.le_trans this (by decide)
end Cz

/-! MC: the pairs of the 459 rooms up to their bounds are few. -/
namespace Cz
open PySem PySem.Spec PyProof.Rows L2 Kx
end Cz

/-! CzU: errors on the way to a call; rows led into a room. -/
namespace Cz
open PySem PySem.Spec PyProof.Rows L2 Kx
section
variable {K : PySem.W.Frag} {Γ : List D} {W : WX} {P : Po} {t : TA} {ta tb : TE} {x : T} {C : Addr}
theorem ev_notNL {xs : List T} (ha : EvL K ta Γ xs) : Ev K (tOp (fun x y H Q => y = .non ∧ Q (.bl (!decide (x = .non))) H) ta (tC .non)) Γ (.bl true) := fun H0 A σ H Q E q =>
  ha H0 A σ H _ E fun b vs H1 s _ _ => ⟨rfl, by
    rw [decide_eq_false (fun z => nomatch z)]
    exact q _ H1 s (.bl true)⟩
end
/-! ### rows led in -/
def reachM (m : Mat) (p v : Row) : Int := -((bil m p v * bil m p v - Q m p * Q m v).fdiv (Q m v))
end Cz
namespace Cz
open PySem PySem.Spec PyProof.Rows L2 Kx
section
variable {K : PySem.W.Frag} {Γ : List D} {W : WX} {P : Po} {t : TA} {ta tb : TE} {x : T} {C : Addr}
theorem evf_methX {ta : TE} {C : Addr} {ns : List Str} {ts : List T} {m : Str} {t : TA} {ds : List D} {xs : List T} {R : List D → Rs → Prop} {Ex : XK} (h : Ev K ta Γ (.obj C ns ts)) (hm : ns.all (fun n => !decide (n = m)) = true) (ha : EvA K t Γ ds) (hp : R (.t (.obj C ns ts) :: ds) (.ok (.l xs))) :
    EvF K (tMeth C m (spX K R) [] Ex ta t) Γ xs := fun H0 A σ H Q E q =>
  h H0 A σ H _ E fun v H1 s1 r1 => by
    cases r1 with
    | obj e en rs =>
      refine ⟨_, _, _, rfl, e, fld_none en hm, ha H0 A σ H1 _ (E.mono s1) fun vs H2 s2 r2 => ?_⟩
      refine ⟨_, _, hp, .cons (Rp.mono (Imm.of_same s2) (.obj e en rs)) (by rw [List.append_nil]; exact r2), fun v H3 s3 r3 => ?_⟩
      obtain ⟨p, ws, rfl, n, e', r⟩ := r3
      exact q p ws H3 ((s1.trans s2).free n) (s1.trans (s2.trans s3)) e' r
end
end Cz

/-! MD: the form without roots; lattices of one form, by evaluation. -/
namespace Cz
open PySem PySem.Spec PyProof.Rows L2 Kx
def bareF : Mat := ⟨⟨3, 1, -1⟩, ⟨1, 5, 2⟩, ⟨-1, 2, -23⟩⟩
theorem bareF_ok : formOk bareF = true := by decide +kernel
theorem bareF_kinds : kindsM bareF = [1, 2, 7, 14, 49, 98] := by decide +kernel
theorem bareF_Q (r : Row) : Q bareF r = 3 * (r.x * r.x) + 5 * (r.y * r.y) - 23 * (r.z * r.z) + 2 * (r.x * r.y) - 2 * (r.x * r.z) + 4 * (r.y * r.z) := by
  simp only [Q, image, dot, bareF]; grind
/-- three times a square leaves 0, 3, 5 or 6 -/
theorem sq7 (s k c : Int) (hc : c = 1 ∨ c = 2) : 3 * (s * s) + 7 * k ≠ c := by
  intro h
  have e : s = 7 * (s / 7) + s % 7 := (Int.mul_ediv_add_emod s 7).symm
  have h0 := Int.emod_nonneg s (show (7 : Int) ≠ 0 by decide)
  have h1 := Int.emod_lt_of_pos s (show (0 : Int) < 7 by decide)
  generalize s / 7 = q at e
  generalize s % 7 = t at e h0 h1
  have e2 : s * s = 7 * (7 * (q * q) + 2 * (q * t)) + t * t := by rw [e]; grind
  rw [e2] at h
  generalize 7 * (q * q) + 2 * (q * t) = u at h
  have ht : t = 0 ∨ t = 1 ∨ t = 2 ∨ t = 3 ∨ t = 4 ∨ t = 5 ∨ t = 6 := by omega
  rcases ht with rfl | rfl | rfl | rfl | rfl | rfl | rfl <;> omega
theorem sq7m (s k c : Int) (hc : c = 1 ∨ c = 2) : -2 * (s * s) + 7 * k ≠ c := by
  intro h
  have e : s = 7 * (s / 7) + s % 7 := (Int.mul_ediv_add_emod s 7).symm
  have h0 := Int.emod_nonneg s (show (7 : Int) ≠ 0 by decide)
  have h1 := Int.emod_lt_of_pos s (show (0 : Int) < 7 by decide)
  generalize s / 7 = q at e
  generalize s % 7 = t at e h0 h1
  have e2 : s * s = 7 * (7 * (q * q) + 2 * (q * t)) + t * t := by rw [e]; grind
  rw [e2] at h
  generalize 7 * (q * q) + 2 * (q * t) = u at h
  have ht : t = 0 ∨ t = 1 ∨ t = 2 ∨ t = 3 ∨ t = 4 ∨ t = 5 ∨ t = 6 := by omega
  rcases ht with rfl | rfl | rfl | rfl | rfl | rfl | rfl <;> omega
theorem bare1 (r : Row) (c : Int) (hc : c = 1 ∨ c = 2) : Q bareF r ≠ c := by
  rw [bareF_Q, show 3 * (r.x * r.x) + 5 * (r.y * r.y) - 23 * (r.z * r.z) + 2 * (r.x * r.y) - 2 * (r.x * r.z) + 4 * (r.y * r.z) = 3 * ((r.x + 5 * r.y + 2 * r.z) * (r.x + 5 * r.y + 2 * r.z)) + 7 * (-10 * (r.y * r.y) - 5 * (r.z * r.z) - 4 * (r.x * r.y) - 2 * (r.x * r.z) - 8 * (r.y * r.z)) by grind]
  exact sq7 _ _ c hc
theorem bare_img (r : Row) : (image bareF r).x = 3 * r.x + r.y - r.z ∧ (image bareF r).y = r.x + 5 * r.y + 2 * r.z := by
  simp only [image, dot, bareF]
  exact ⟨by omega, by omega⟩
theorem bare7 (r : Row) (h : (7 : Int) ∣ (image bareF r).x) : ∃ t, r.x = 7 * t - 5 * r.y - 2 * r.z ∧ Q bareF r = 7 * (21 * (t * t) + 10 * (r.y * r.y) - r.z * r.z - 28 * (t * r.y) - 14 * (t * r.z) + 10 * (r.y * r.z)) := by
  rw [(bare_img r).1] at h
  have hd : (7 : Int) ∣ r.x + 5 * r.y + 2 * r.z := by omega
  obtain ⟨t, ht⟩ := hd
  refine ⟨t, by omega, ?_⟩
  rw [bareF_Q, show r.x = 7 * t - 5 * r.y - 2 * r.z by omega]
  grind
theorem bare_no (r : Row) {n : Int} (hn : n ∈ kindsM bareF) (hd : kindN n ∣ (image bareF r).x ∧ kindN n ∣ (image bareF r).y ∧ kindN n ∣ (image bareF r).z) : Q bareF r ≠ n := by
  rw [bareF_kinds] at hn
  simp only [List.mem_cons, List.not_mem_nil, or_false] at hn
  have k7 : kindN 7 = 7 := by decide +kernel
  have k14 : kindN 14 = 7 := by decide +kernel
  have k49 : kindN 49 = 49 := by decide +kernel
  have k98 : kindN 98 = 49 := by decide +kernel
  have c7 : ∀ c : Int, c = 1 ∨ c = 2 → (7 : Int) ∣ (image bareF r).x → Q bareF r ≠ 7 * c := fun c hc h z => by
    obtain ⟨t, _, e⟩ := bare7 r h
    rw [e] at z
    have z2 := Int.eq_of_mul_eq_mul_left (by decide : (7 : Int) ≠ 0) z
    rw [show 21 * (t * t) + 10 * (r.y * r.y) - r.z * r.z - 28 * (t * r.y) - 14 * (t * r.z) + 10 * (r.y * r.z) = 3 * ((r.y + 4 * r.z) * (r.y + 4 * r.z)) + 7 * (3 * (t * t) + r.y * r.y - 7 * (r.z * r.z) - 4 * (t * r.y) - 2 * (t * r.z) - 2 * (r.y * r.z)) by grind] at z2
    exact sq7 _ _ c hc z2
  have c49 : ∀ c : Int, c = 1 ∨ c = 2 → (49 : Int) ∣ (image bareF r).x → (49 : Int) ∣ (image bareF r).y → Q bareF r ≠ 49 * c := fun c hc h h2 z => by
    obtain ⟨t, ht, e⟩ := bare7 r (Int.dvd_trans ⟨7, rfl⟩ h)
    rw [(bare_img r).1] at h
    rw [(bare_img r).2] at h2
    have d1 : (7 : Int) ∣ t := by omega
    obtain ⟨t', rfl⟩ := d1
    have d2 : (7 : Int) ∣ 2 * r.y + r.z := by omega
    obtain ⟨w, hw⟩ := d2
    have hz : r.z = 7 * w - 2 * r.y := by omega
    rw [e, hz] at z
    have z2 : (7 : Int) * (-2 * (r.y * r.y) + 7 * (-1 * (w * w) + 2 * (w * r.y) + 21 * (t' * t') - 14 * (t' * w))) = 7 * c := by
      have : (7 : Int) * (7 * (-2 * (r.y * r.y) + 7 * (-1 * (w * w) + 2 * (w * r.y) + 21 * (t' * t') - 14 * (t' * w)))) = 7 * (7 * c) := by grind
      exact Int.eq_of_mul_eq_mul_left (by decide : (7 : Int) ≠ 0) this
    exact sq7m _ _ c hc (Int.eq_of_mul_eq_mul_left (by decide : (7 : Int) ≠ 0) z2)
  rcases hn with rfl | rfl | rfl | rfl | rfl | rfl
  · exact bare1 r 1 (.inl rfl)
  · exact bare1 r 2 (.inr rfl)
  · rw [k7] at hd; exact c7 1 (.inl rfl) hd.1
  · rw [k14] at hd; exact c7 2 (.inr rfl) hd.1
  · rw [k49] at hd; exact c49 1 (.inl rfl) hd.1 hd.2.1
  · rw [k98] at hd; exact c49 2 (.inr rfl) hd.1 hd.2.1
end Cz

/-! ME0: outward roots of one form up to any depth; of a room at a lesser depth; what is outward. -/
namespace Cz
open PySem PySem.Spec PyProof.Rows L2 Kx
/-! ### outward -/
theorem out_le {m : Mat} {p r : Row} (h : outB m p r = true) : dot r (image m p) ≤ 0 := by
  unfold outB at h
  have h := of_decide_eq_true h
  unfold outL outN at h
  rw [out4] at h
  by_cases z : dot r (image m p) ≠ 0
  · rw [if_pos z] at h
    omega
  · omega
theorem fdiv_neg {x y : Int} (hx : 0 ≤ x) (hy : y < 0) : x.fdiv y ≤ 0 := by
  rw [← Int.neg_fdiv_neg, Int.fdiv_eq_ediv_of_nonneg _ (show 0 ≤ -y by omega)]
  exact Int.ediv_nonpos_of_nonpos_of_neg (by omega) (by omega)
theorem reach_nn {m : Mat} {p v : Row} (hA : formOk m = true) (hp : Q m p < 0) (hv : Q m v < 0) : 0 ≤ reachM m p v := by
  unfold reachM
  have h := cs_rev hA (Int.le_of_lt hp) (Int.le_of_lt hv)
  have := fdiv_neg (show 0 ≤ bil m p v * bil m p v - Q m p * Q m v by omega) hv
  omega
end Cz

/-! ME: outward roots of one form up to any depth; of a room at a lesser depth; what is outward. -/
namespace Cz
open PySem PySem.Spec PyProof.Rows L2 Kx
end Cz

/-! CzW: tuple([e for q in range(3)]) where e moves the counter, in a frame that owns it. -/
namespace Cz
open PySem PySem.Spec PyProof.Rows L2
section
variable {K : PySem.W.Frag} {Γ Γ1 Γ2 Γ3 : List D} {te : TE}
/-- own slots are the same, the others stay -/
structure Alike (Γ Γ' : List D) : Prop where
  len : Γ'.length = Γ.length
  at' : ∀ (i : Nat) (d : D), Γ'[i]? = some d → Γ[i]? = some d ∨ ((∃ xs, d = D.own xs) ∧ ∃ ys, Γ[i]? = some (D.own ys))
end
end Cz
namespace Cz
open PySem PySem.Spec PyProof.Rows L2
mutual
theorem eqv_self : ∀ x : T, PyData.eqv (T.py x) (T.py x) = true
  | .non => by simp [T.py, PyData.eqv]
  | .bl b => by simp [T.py, PyData.eqv]
  | .int i => by simp [T.py, PyData.eqv]
  | .str s => by simp [T.py, PyData.eqv]
  | .tup ts => by
    rw [T.py, PyData.eqv]
    exact eqvs_self ts
  | .obj _ _ _ => by simp [T.py, PyData.eqv]
theorem eqvs_self : ∀ xs : List T, PyData.eqvAll (T.pys xs) (T.pys xs) = true
  | [] => by simp [T.pys, PyData.eqvAll]
  | t :: ts => by
    rw [T.pys, PyData.eqvAll, eqv_self t, eqvs_self ts]
    rfl
end
end Cz

/-! CzR: t[::-1] of a tuple; t + u, t may be empty. -/
namespace Cz
open PySem PySem.Spec PyProof.Rows L2
section
variable {prog : Program} {w : World} {A : Around} {E : Value → Shared → Prop} {s : Shared}
end
section
variable {X : Cx}
end
/-! ### t + u -/
end Cz

/-! MF: the walls of the 459 rooms, by evaluation; each with a row on its mirror that has a product below 0 with all other outward roots. -/
namespace Cz
open PySem PySem.Spec PyProof.Rows L2 Kx
/-- for each room, in digits of 1024: its form, its base, its bound, the number of its walls, the walls (each with a row on its mirror), its corners round (each with the wall from it to the next one) -/
def codeT : List Nat := [
  0x7f5fd7fa018020080a028060280601801ff802017fe0080e00806007fe0080e018060280a01809ff801fd7f5fe00e0180600801ff80600806017f6007f605,
  0x7f5fd7fa018020080a02806028060180e0280a007fe008120180a0380a0280e018060280a01805ff801fd7f5fe00e0280600801fe80a0080a007f6007f605,
  0x7f5fd7fa018020080a0280602806018120380e007fe0080a008060480e0380e018060280a01805ff801fd7f5fe00e0280600801fd80e0080dff7f6007f605,
  0x7fdff7fe018020080a028060280601801ff802007f9ff809ff802007fe0080e018060280a01805fe7fdff7fdff00e0180600801ff80600806027f2007f206,
  0x7fdff7fe018020080a0280602806018120180a03802017fdfe7fe017f9ff8160180a0480602811fe801ff7f9ff80e018060280a01809fe7fdff7fdff0120380600801ff80600806037ee007ee07,
  0x7fdff7fe018020080a02806038060180a01806057fe017fdfe7fe017f9ff82e0180e0280601819fd801ff7f9ff812018060280a01809fe7fdff7fdff0120180600801ff80600806047e6007e60b,
  0x7fdff7fe018020080a0280602806018120380e007fe007f1fa7f5ff7f9ff7f5f97f5fc7e9fd80a008060480e0380e018060280a01801fe7fdff7fdff0120680600801fd80e0080e007f2007f206,
  0x7fdff7fe018020080a028060280601822038120580602805ff802017f1fe81e0280e0880e04819fd802017fe0080e018060280a01809fc7f9ff7fdff0120580600801ff80600806057e6007e609,
  0x7f9fe7fe018020080e03806038060180a01806038020181a0180a0280601812018060380e0181200805fe7f9ff00e0180600801ff80600806017f6007f606,
  0x7f9fe7fe018020080e03806028060180e0080a02802018120180a038020280e018060380e0180e00805fe7f9ff00e0680600801fe80a0080a007f6007f606,
  0x7f9fe7fe018020080e0380602806018060080602802018120180a018020180e018060380e0180e00805fe7f9ff00e0380600801fd80e0080dff7f6007f606,
  0x7fdff7fe018020080a02806028060180600805ff7f9ff805ff802018020180e018060280a01801fe7fdff7fdff00e0180600801fe80a0080a017f2007f206,
  0x7f9ff7fe018020080a02806058060180e01806047f1ff7fdfe7fe007f9ff811f87f5ff7f9ff825fd802038060181a018060280a01805fe7fdfe7fdff0120180600801ff80202802057e2027e20a,
  0x7f1fd7fdfe7fe0180200806018060180601801fe7fe007fe0080a00802017fe0080601806007f1fe805fc7f5ff00e017f9ff802007fe027fe037f6027f601,
  0x7f9ff7fdfc7fe017f9ff801ff802018060180a018060180a0280600806017edff809fe7fe008020180a01806028060280a0280a017f200809fe7fdff0120480201806007fe027fe057ee027ee03,
  0x7f5fd7fa018020080a02806048060180a01806027fe0081a008060280601816018060280a0180dff801fd7f5fe00e0180600801ff80600806057de007de0f,
  0x7f1fd7fa0180200802018020880e0280e01806027fe0082a0280a03806018260380a008060080dff801fc7f5fe00e0180600801ff80202802047ea027ea07,
  0x7f9fe7fe01802008060180202806018060080602802018120180a018020180e01806018060080e00805fe7f9ff00e0180600801ff80600806007fe007fe02,
  0x7f9fe7fe018020080601802028060180e0280a01802018160280e0380a0280e01806018060080a00805fe7f9ff00e0280600801fe80a00809ff7fe007fe02,
  0x7f9fe7fe01802008060180202806018120380e018020180e0180a0480e0380e01806018060080a00805fe7f9ff00e0280600801fd80e0080dfe7fe007fe02,
  0x7fdff7fe018020080601802028060180600806017fe0080e00806018020180e018060180600809ff801ff7fdff00e0180600801ff80600806017fa007fa03,
  0x7fdff7fe01802008060180202806018160280e0480602801ff802027fe0081a0280e0580a0381a0080a007fe0080e01806018060080dff801ff7fdff0120380600801ff80600806027f6007f604,
  0x7fdff7fe018020080601802038060180a018060780603801ff802027fe008360381602806018260080e007fe0081201806018060080dff801ff7fdff0120180600801ff80600806027f6007f605,
  0x7fdff7fe01802008060180202806018120380e01802017fdfd802007fe00805fd805ff7f60080e0180a0480e0380e018060180600805ff801ff7fdff0120680600801fd80e0080dff7fa007fa03,
  0x7fdff7fe0180200806018020280601826048160680a0380a00806037fa008220381209812058260080e028020180e018060180600811fe801ff7fdff0120580600801ff80600806047ee007ee06,
  0x7f9fe7fe018020080601802048060280600806028020181a0180e01802018160180a018060080e00805fe7f9ff00e0180600801ff80600806017fe007fe02,
  0x7f9fe7fe01802008060180203806028160281201802018120180e0580a048120180a018060080a00805fe7f9ff00e0680600801fe80a0080a007fe007fe02,
  0x7f9fe7fe018020080601802038060280a0180a01802018120180e02806028120180a018060080a00805fe7f9ff00e0380600801fd80e0080dff7fe007fe02,
  0x7fdff7fe018020080601802028060180a0180a007fe0080a00806028060280e018060180600805ff801ff7fdff00e0180600801fe80a0080a007fa007fa03,
  0x7f9ff7fe018020080601802058060180e01806077fe02801ff802017fe00825fd80a007fe008320080e038060181a018060180600809ff801fe7fdff0120180600801ff80601806017f6017f604,
  0x80a017fdff802017f9ff801ff802028060180a00806037fe0181601806027fa0080dfe7fe007fe0181202805ff00e017fe008060080201802017fa017fa01,
  0x7f9ff7fdfe806037fe00806008060280a0280e01806018060180200806017fa02815ff802018060280e0280a038060280a01806007fa02811fe7fdff01204802018060080201802037f2017f203,
  0x7f9fe7fe018020080601802048060180a01806038020181e0180a028060181601806018060081200805fe7f9ff00e0180600801ff80600806027f6007f606,
  0x7f5fe7fe01802007fe007fe0780a0180e01806038020182a0280a038060182202805ff801ff81200805fd7f9ff00e0180600801ff80601806027f6017f603,
  0x7fdff7fe018020080601802038060280a0180a01802018120180e02806028120180a018060080a00805ff7fdff00e0180600801ff80600806017fe007fe01,
  0x7fdff7fe01802008060180202806028060080a018020181201812018020280e0180a018060080a00805ff7fdff00e0280600801fe80a0080a007fe007fe01,
  0x7fdff7fe01802008060180202806028060080e018020180e0180e018020380e0180a018060080a00805ff7fdff00e0280600801fd80e0080dff7fe007fe01,
  0x7fdff7fe0180200802007fe028060180a0180a02802018120180a028060280e0180600801ff80e00805ff7fdff00e0180600801ff80600806027fa007fa02,
  0x7fdff7fe0180200802007fe028060181a038120580a0380600806038020181e038120680e0482202812018020180e0180600801ff81200805ff7fdff0120380600801ff80600806037f6007f603,
  0x7fdff7fe0180200802007fe038060180a018060980e0580600806038020183e0581e02806018320381a01802018120180600801ff81200805ff7fdff0120180600801ff80600806047f6007f603,
  0x7fdff7fe0180200802007fe02806018120380e028060280a0080e01802018160181602802038120280e0480e0380e0180600801ff80a00805ff7fdff0120680600801fd80e0080e007fa007fa02,
  0x7fdff7fe0180200802007fe028060182a0581a0780e0480e0180a0580202826048160a816068320381a038060280e0180600801ff81a00809ff7fdff0120580600801ff80600806057ee007ee05,
  0x7f9fe7f6018020080601806048060380600806028020181a0181201802018160180e018060180e00805fe7f9fd00e0180600801ff80600806057f6007f602,
  0x7f9fe7f601802008060180603806038160281a0180201812018120580a068120180e018060180a00805fe7f9fd00e0680600801fe80a0080a047f6007f602,
  0x7f9fe7f6018020080601806038060380a0180e01802018120181202806038120180e018060180a00805fe7f9fd00e0380600801fd80e0080e037f6007f602,
  0x7fdff7fe0180200802007fe028060180e0280e018020180e0180a0380a0380e0180600801ff80a00805ff7fdff00e0180600801fe80a0080a017fa007fa02,
  0x7f9ff7fe0180200802007fe058060180e018060a80a0580600806028020183a0281e018020183e0381a038060181a0180600801ff80e00805fe7fdff0120180600801ff80a0080a017fa007fa02,
  0x7f9ff7fe0080e07802028160180a04806007fe00806028060582e0080a058060381a01801ff80204825fe7fdff00e018020180a0080600805ff7fe007fe01,
  0x7f9ff7fe0080e058020180a0180a0380e038120180601802007fe008060180605822008060280a038120380e048060280a00801ff80204819fe7fdff01204802018060080600806017f6007f603,
  0x7fdff7fe018020080601802048060280600806038020181e0180e01802018160180a018060081200805ff7fdff00e0180600801ff80600806057f6007f603,
  0x7f9ff7fa018020080a01802048060280600806027fe0081a0080a01802018160180a028060080dff801fe7fdfe00e0180600801ff80a0080a047f2007f203,
  0x7fdff7fe018020080601802038060280a0180a01802018120180e02806028120180a018060080a00805ff7fdff00e0180600801ff80600806017fe007fe01,
  0x7fdff7fe01802008060180202806028060080a018020181201812018020280e0180a018060080a00805ff7fdff00e0280600801fe80a0080a007fe007fe01,
  0x7fdff7fe01802008060180202806028060080e018020180e0180e018020380e0180a018060080a00805ff7fdff00e0280600801fd80e0080dff7fe007fe01,
  0x7fdff7fe0180200802007fe038060180a0180a01802018120180a02806028120180600801ff80a00805ff7fdff00e0180600801ff80600806027fe007fe01,
  0x7fdff7fe0180200802007fe048060180a0180604806038120181201802018160181204806048220281202806018160180600801ff80a00805ff7fdff0120380600801ff80600806037fe007fe01,
  0x7fdff7fe0180200802007fe048060180a018060880a058060080602802018320281e01802018320381a02806018160180600801ff80e00805ff7fdff0120180600801ff80600806047fa007fa02,
  0x7fdff7fe0180200802007fe02806018160380e02806028060080e0180201822048160580e0380e0180e018020380e0180600801ff80a00805ff7fdff0120680600801fd80e0080e007fe007fe01,
  0x7fdff7fe0180200802007fe0780a0280e0180a058060481a0181a018020181a0181606806068320381a03806028220280a00801ff80a00805ff7fdff0120580600801ff80600806057fe007fe01,
  0x7f9fe7fe018020080601802048060280600806028020181a0180e01802018160180a018060080e00805fe7f9ff00e0180600801ff80600806017fe007fe02,
  0x7f9fe7fe01802008060180203806028160281201802018120180e0580a048120180a018060080a00805fe7f9ff00e0680600801fe80a0080a007fe007fe02,
  0x7f9fe7fe018020080601802038060280a0180a01802018120180e02806028120180a018060080a00805fe7f9ff00e0380600801fd80e0080dff7fe007fe02,
  0x7fdff7fe0180200802007fe028060180a0180e018020180e0180a028060380e0180600801ff80a00805ff7fdff00e0180600801fe80a0080a017fe007fe01,
  0x7fdff7fe01802007fe007fe038060180a018060b80e0580a0080604802018460581e028060183e0381a028020181201805ff801ff81600805ff7fdff0120180600801ff80201802057f6017f602,
  0x7fe007fdfe7fe007fdff802008020180601805ff802017fe0080a01806017f9ff805ff7fe007f5ff805ff801ff00e017f9ff802007fe017fe037fe017fe00,
  0x7fdff7fe008020180601812008060380201809ff80a057fe007fdff802017fe0382200806028020181201806047fa02819ff801ff7fe00809ff7fdff012047fe00806007fe017fe057fe017fe00,
  0x7fdff7fe018020080601802048060280600806038020181e0180e01802018160180a018060081200805ff7fdff00e0180600801ff80600806057f6007f603,
  0x7f9ff7fa018020080201802068060280a00806027fe008220080a028020181e0180a008060080dff801fe7fdfe00e0180600801ff80201802047fa017fa02,
  0x806017fe038060180a0180601802017fdff80201802008120180a028060180a00805ff7fe008120180601805ff00e0180600801ff80600806008020080201,
  0x806017fe02806018060080a01802017fdff80201802008120180e018020280a00805ff7fe0080e0180601805ff00e0280600801fe80a00809ff8020080201,
  0x806017fe02806018060080e01802017fdff802018020080e0180a018020380a00805ff7fe0080e0180601805ff00e0280600801fd80e0080dfe8020080201,
  0x802007fe038060080a0180601802017fdff802018020081201806028060180a00805ff7fe008120180200801ff00e0180600801ff80600806018020080201,
  0x802007fe048060080a0180204806028120180e01802017fdff80201802008160180e04806038220280a028060080a00805ff7fe008160180200801ff0120380600801ff80600806028020080201,
  0x802007fe048060080a018020880a038060080602802017fdff80201802008320281601802018320380e028060080e00805ff7fe008160180200801ff0120180600801ff80600806028020080202,
  0x802007fe02806008160380202806018060080e01802017fdff8020180200822048060580e0080e0180a018020380a00805ff7fe0080e0180200801ff0120680600801fd80e0080dff8020080201,
  0x802007fe0780a0080e01806058060381a0181601802017fdff802018020081a0181206806058320380e038060180a00805ff7fe008220280200801ff0120580600801ff80600806048020080201,
  0x806017fe04806018060080602802017f9fe806018020081a0180a018020180e00805fe7fa018160180601805ff00e0180600801ff80600806018060080602,
  0x806017fe03806018160280a01802017f9fe80601802008120180a0580a0280a00805fe7fa018120180601805ff00e0680600801fe80a0080a008060080602,
  0x806017fe038060180a0180601802017f9fe80601802008120180a028060180a00805fe7fa018120180601805ff00e0380600801fd80e0080dff8060080602,
  0x802007fe028060080a0180a01802017fdff802018020080e01806028060280a00805ff7fe0080e0180200801ff00e0180600801fe80a0080a008020080201,
  0x7fe007fe038060080a018020b80e0280a0080604802017fdff80201802008460580a028060083e0380e028020181600805ff7fe0081201801ff801ff0120180600801ff80601806017fe017fe02,
  0x7fe007fdfe7fe017fdff806008020180601801ff802017fe0080a01806007f9ff809ff7fe017f5ff809ff801ff00e017f9ff8060080201802017fe017fe00,
  0x7fe007fdff802017fdff80200802018060180e008060280201805ff80a037fe0381600806018020180e01806037fe00809ff7fe007fa02811ff801ff012047fe008060080201802037fe017fe00,
  0x806017fe04806018060080603802017fdff802018020081e0180a018020181200805ff7fe008160180601805ff00e0180600801ff80600806028020080203,
  0x7f9ff7fe0180200802017fe068060180a00806027fe018220080a028020181e0180600805ff80dff805fe7fdff00e0180600801ff80601806028020180202,
  0x806017fa038060080a0180201802017fdff806018020081201806028060080a00805ff7fe018120180201805fe00e0180600801ff80600806018060080601,
  0x806017fa02806008060080a01802017fdff80601802008120180a018020280a00805ff7fe0180e0180201805fe00e0280600801fe80a0080a008060080601,
  0x806017fa02806008060080e01802017fdff806018020080e01806018020380a00805ff7fe0180e0180201805fe00e0280600801fd80e0080dff8060080601,
  0x802007fe03805ff80a0180201802017fdff806018020081201802028060080a00805ff7fe01812017fe00801ff00e0180600801ff80600806028060080601,
  0x802007fe04805ff80a017fe04806018120180a01802017fdff80601802008160180a04806028220280202805ff80a00805ff7fe01816017fe00801ff0120380600801ff80600806038060080601,
  0x802007fe04805ff80a017fe0880a018060080602802017fdff80601802008320280e01802018320380202805ff80e00805ff7fe01816017fe00801ff0120180600801ff806008060480a0080a02,
  0x802007fe02805ff816037f602806008060080e01802017fdff8060180200822047f60580dfd80e01806018020380a00805ff7fe0180e017fe00801ff0120680600801fd80e0080e008060080601,
  0x802007fe07809fe80e01802058060281a0181201802017fdff806018020081a0180e068060483203802038060080a00805ff7fe01822027fa00801ff0120580600801ff80600806058060080601,
  0x806017fa04806008060080602802017f9fe80e018020081a01806018020180e00805fe7fa038160180201805fe00e0180600801ff806008060580e0080e02,
  0x806017fa03806008160280201802017f9fe80e0180200812018060580a0080a00805fe7fa038120180201805fe00e0680600801fe80a0080a0480e0080e02,
  0x806017fa038060080a0180201802017f9fe80e018020081201806028060080a00805fe7fa038120180201805fe00e0380600801fd80e0080e0380e0080e02,
  0x802007fe02805ff80a0180601802017fdff806018020080e01802028060180a00805ff7fe0180e017fe00801ff00e0180600801fe80a0080a018060080601,
  0x7fe007fe03805ff80a017fe0b80dff80a0080604802017fdff8060180200846057f602805ff83e03802028020181600805ff7fe01812017fdff801ff0120180600801ff80a0180a018060180602,
  0x7fe007fdfe7fe027fdff80a0080201806017fdff802017fe0080a01805ff7f9ff80dff7fe027f5ff80dff801ff00e017f9ff80a0080601805ff7fe017fe00,
  0x7fe007fdff802017fdff80600802018060180a008060180201801ff80a017fe0380a00806008020180a01806027fe00809ff7fe017fa02809ff801ff012047fe008060080601806017fe017fe00,
  0x806017fa04806008060080603802017fdff806018020081e01806018020181200805ff7fe018160180201805fe00e0180600801ff806008060580e0080e03,
  0x802017fa068060080a00806027fe027f9ff80201802008220080a028020180dff809fe7fe0081e0180200805fe00e0180600801ff80a0180a0480a0180a02,
  0x806017fa038060080a0180201802017fdff806018020081201806028060080a00805ff7fe018120180201805fe00e0180600801ff80600806018060080601,
  0x806017fa02806008060080a01802017fdff80601802008120180a018020280a00805ff7fe0180e0180201805fe00e0280600801fe80a0080a008060080601,
  0x806017fa02806008060080e01802017fdff806018020080e01806018020380a00805ff7fe0180e0180201805fe00e0280600801fd80e0080dff8060080601,
  0x802007fe02805ff80a0180202802017fdff806018020081201802028060080e00805ff7fe0180e017fe00801ff00e0180600801ff806008060280a0080a02,
  0x802007fe02805ff81a037fa05809ff8060080603802017fdff806018020081e037fa0680dfe82202802018020181200805ff7fe0180e017fe00801ff0120380600801ff806008060380e0080e03,
  0x802007fe03805ff80a017fe0980dff8060080603802017fdff806018020083e057f602805ff83203802018020181200805ff7fe01812017fe00801ff0120180600801ff806008060480e0080e03,
  0x802007fe02805ff812037f6028060080a0080e01802017fdff80601802008160180e0280203812027fe0480dfd80a00805ff7fe0180e017fe00801ff0120680600801fd80e0080e0080a0080a02,
  0x802007fe02805ff82a057f20780dfe80e0180205802027fdff8060180200826047f60a815fc83203802038060081a00809ff7fe0180e017fe00801ff0120580600801ff80600806058160081605,
  0x806017fe04806018060080602802017f9fe806018020081a0180a018020180e00805fe7fa018160180601805ff00e0180600801ff80600806018060080602,
  0x806017fe03806018160280a01802017f9fe80601802008120180a0580a0280a00805fe7fa018120180601805ff00e0680600801fe80a0080a008060080602,
  0x806017fe038060180a0180601802017f9fe80601802008120180a028060180a00805fe7fa018120180601805ff00e0380600801fd80e0080dff8060080602,
  0x802007fe02805ff80e027fe01802017fdff806018020080e0180203809ff80a00805ff7fe0180e017fe00801ff00e0180600801fe80a0080a0180a0080a02,
  0x802007fe03805ff806017fe0680a01806008060280201801ff806018020082a0280e01802018260380201805ff80e00806007fe01812017fe00801ff0120180600801ff802008020580a0080a02,
  0x7fe007fdfe7fe00801ff805fe7fe0180200805ff802007f5ff80600802017f1fe806007fe017f5ff801ff801ff00e017f9ff802007fe007fe038060080601,
  0x802007fdfe7fe01801ff805fa7f6057f9ff809fd7fe027f600805ff802007ddfc81dfe7fe027f1ff809fd802017e1fc81a007fe017f5ff80600801ff012047f9ff806007fe007fe0580e0080e03,
  0x806017fa04806008060080603802017fdff806018020081e01806018020181200805ff7fe018160180201805fe00e0180600801ff806008060580e0080e03,
  0x802017fa028060080600806047fe02801ff802018020081a0080a0180201815ff80a007fe0080e0180200805fe00e0180600801ff802008020480a0080a03,
  0x806017fe02806008060080602802017f9fe806018020081201806018020180e00805fe7fa0180e0180201805ff00e0180600801ff80600806008060080602,
  0x806017fe028060080e0280201802017f9fe8060180200816028060380a0080a00805fe7fa0180e0180201805ff00e0280600801fe80a00809ff8060080602,
  0x806017fe02806008120380201802017f9fe806018020080e018060480e0080a00805fe7fa0180e0180201805ff00e0280600801fd80e0080dfe8060080602,
  0x806017fe038060080600806007fe017fdff802018020080e008060180201805ff805ff7fe008120180201805ff00e0180600801ff806008060180a0080a03,
  0x806017fe048060080a01802027fe02805fe80e007fe017fdff8020180200809fe80e017fa0381a0080a0280600805ff805ff7fe008160180201805ff0120380600801ff806008060280e0080e04,
  0x806017fe048060080a01802057fe03801ff806017fe017fdff802018020081dfd816007fe018260080e0280600809ff805ff7fe008160180201805ff0120180600801ff806008060280e0080e05,
  0x806017fe02806008160380201802017f9fd80e007fe017fdff802018020081e038060580e00805ff809fe7f603805ff805ff7fe0080e0180201805ff0120680600801fd80e0080dff80a0080a03,
  0x806017fe0780a0080a00806027fa03805fc816007fe017fdff8020180200809fd812017f2058260080e0280201805ff805ff7fe008220280201805ff0120580600801ff80600806048160081606,
  0x80e037fa038060080a0180203802017f9fe806018020081a01806028060081200805fe7fa01812018020380dfe00e0180600801ff806008060180e0080e06,
  0x80e037fa028060080e0080a02802017f9fe806018020081201806038020280e00805fe7fa0180e018020380dfe00e0680600801fe80a0080a0080e0080e06,
  0x80e037fa02806008060080602802017f9fe806018020081201806018020180e00805fe7fa0180e018020380dfe00e0380600801fd80e0080dff80e0080e06,
  0x806017fe0280600801ff80a007fe017fdff802018020080a00806007fe02805ff805ff7fe0080e0180201805ff00e0180600801fe80a0080a0080a0080a03,
  0x802017fe038060080a018020980602805ff806037fe017fdff802018020083e0380a02806008320080e017fe01811ff805ff7fe008120180200805ff0120180600801ff80601806018060180604,
  0x802017fdfd7fa017f9fe805ff7fe0180601801fe7fe017f5fe80a01806007f1fd809fe7fa017edfd80a00805ff00e017f5fe8060080201802018020180201,
  0x802017fdfe7fe017fdff801ff7fe017f9fe80dfe7fe027fe00805fc7fe037e9fe815ff802017f5fe80dfe7fa037f5fe809ff7fe007e9fe81200805ff012047f9ff80600802018020380a0180a03,
  0x806017fe048060080a0180203802017f9fe806018020081e01806028060081200805fe7fa018160180201805ff00e0180600801ff806008060280e0080e06,
  0x7fe007fe03809ff80a0180205802017fdfe806018020082202802028060081a00805ff7fa01812027fdff801ff00e0180600801ff806018060280e0180e07,
  0x80e037fa038060080a01802007fe017f9fe806018020080e008060280600805ff805fe7fa01812018020380dfe00e0180600801ff806008060180e0080e05,
  0x80e037fa02806007fdfe80a007fe017f9fe8060180200809ff809ff7fa02805ff805fe7fa0180e018020380dfe00e0280600801fe80a0080a0080e0080e05,
  0x80e037fa02806007f9fd80e007fe017f9fe806018020080a00805fe7f603805ff805fe7fa0180e018020380dfe00e0280600801fd80e0080dff80e0080e05,
  0x806017fe04809ff80a01802007fe017f9fe8060180200812018020280600805ff805fe7fa01816027fe01805ff00e0180600801ff80600806028120081206,
  0x806017fe05809ff80e027fe0380201809ff80a007fe017f9fe806018020080dff80a027fe028220280203809ff805ff805fe7fa0181a027fe01805ff0120380600801ff80600806038160081607,
  0x806017fe05809ff80e027fe0780601801ff806017fe017f9fe8060180200825ff80e007fe018320380203809ff809ff805fe7fa0181a027fe01805ff0120180600801ff806008060481e0081e0b,
  0x806017fe03809ff822067f602806007f9fd80e007fe017f9fe806018020082e077f608819fd80a00805fe7f603805ff805fe7fa01812027fe01805ff0120680600801fd80e0080e008120081206,
  0x806017fe09811fe80e01802037fe02809fd812007fe017f9fe806018020080dfe80e027f604832038020380600805ff805fe7fa0182a047fa01805ff0120580600801ff806008060581e0081e09,
  0x80e037fa0480600801ff806017fe017edfb80e018020081600806007fe01809ff805fb7ee03816018020380dfe00e0180600801ff8060080605826008260e,
  0x80e037fa038060081602802007fe017edfb80e018020080e008060580a00805ff805fb7ee03812018020380dfe00e0680600801fe80a0080a04826008260e,
  0x80e037fa038060080a01802007fe017edfb80e018020080e008060280600805ff805fb7ee03812018020380dfe00e0380600801fd80e0080e03826008260e,
  0x806017fe03809ff80600806007fe017f9fe806018020080e018020180201805ff805fe7fa01812027fe01805ff00e0180600801fe80a0080a018120081206,
  0x802017fe04809ff80e027fe0c811ff805ff806037fe017f9fe8060180200852087f603809ff83e03802017fe01811ff805fe7fa01816027fe00805ff0120180600801ff80a0280a01812028120a,
  0x802017fdfc7f6027f5fd809ff7fe0180a027fdfe7fe017f5fe80a02809ff7edfc80dfd7f6027e9fc80e00805ff00e017f1fd80a0080602805ff7fe027fe01,
  0x802017fdfe7fe017f9fe805ff7fe017fdff809ff8020180201801fe806017f60180a00806007f9ff809ff7fe027f5fe809fe7fa017f20080a00805ff012047f9ff8060080602806018060280603,
  0x80e037fa0480600801ff806027fe017f9fe806018020081a00806007fe0180dff805fe7fa01816018020380dfe00e0180600801ff8060080605826008260f,
  0x80a037fa0680600805ff806007f6027f9ff8020180200819fe80a017fe01805fd809fe7fe0081e018020280dfe00e0180600801ff80a0280a04822028220f,
  0x801fd7fa0180200802028060180601805ff802027fe0080e00806017fe0080a018060080a0180dff802007f5fe00e0180600801ff80200802027f6007f605,
  0x801fd7fa01802008020280601806018060280a017fe0080e0180a0180a0280a018060080a01809ff802007f5fe00e0280600801fe80200802027f6007f605,
  0x801fd7fa01802008020280601806018060380e017fe0080a008060180e0380a018060080a01809ff802007f5fe00e0280600801fd80200802027f6007f605,
  0x801ff7fe0180200802028060180601805ff802027f9ff80dff802017fe0080a018060080a0180dfe7fe007fdff00e0180600801ff80200802037f2007f206,
  0x801ff7fe018020080202806018060180e0180a0380201805fe7fe037f9ff8120180a0380602819fe802017f9ff80a018060080a01811fe7fe007fdff0120380600801ff80200802047ee007ee07,
  0x801ff7fe018020080202806028060180601806067fe01805fe7fe037f9ff82a0180e0180601825fd802017f9ff80e018060080a01811fe7fe007fdff0120180600801ff80200802057e6007e60b,
  0x801ff7fe01802008020280601806018060380e017fe00809fa7f6017f9ff811f97f6027e9fd80a008060180e0380a018060080a01809fe7fe007fdff0120680600801fd80200802037f2007f206,
  0x801ff7fe0180200802028060180601816038120480602809ff802057f1fe8160280e0580e04825fd802027fe0080a018060080a01819fc7fa007fdff0120580600801ff80200802067e6007e609,
  0x801fe7fe01802008020380602806018060180603802018160180a018060180e018060080e0181200806007f9ff00e0180600801ff80200802027f6007f606,
  0x801fe7fe018020080203806018060180e0080a028020180e0180a038020280a018060080e0180e00806007f9ff00e0680600801fe80200802027f6007f606,
  0x801fe7fe018020080203806018060180600806028020180e0180a018020180a018060080e0180e00806007f9ff00e0380600801fd80200802027f6007f606,
  0x801ff7fe018020080202806018060180600806017f9ff809ff802018020180a018060080a01809fe7fe007fdff00e0180600801fe80200802037f2007f206,
  0x7fdff7fe018020080202806048060180a01806087f1ff805fe7fe027f9ff831f87f6017f9ff831fd8020280601816018060080a0180dfe7fdff7fdff0120180600801ff7fe027fe047ea027ea0a,
  0x7fdfd7fdff7fe0180200806008060180201801ff7fe007fe0080a00802017fe0080600806007f9fe805ff7f5ff00e017fdff802007fe027fe017fe027fe01,
  0x7fdff7fdfd7fe017fdff801ff802018020180a008060180202805ff806017f1ff809ff7fe007fe0180a00806027fe0280a0080a017f200809ff7fdff012047fe01806007fe027fe037f6027f603,
  0x801fd7fa018020080202806038060180601806037fe0081a008060180601812018060080a01811ff802007f5fe00e0180600801ff80200802067de007de0f,
  0x7fdfd7fa01802007fe018020580e0280a01806037fe008220280a028060181a03809ff80600811ff801ff7f5fe00e0180600801ff7fe027fe037f2027f207,
  0x801fe7fe018020080201802018060180600806028020180e0180a018020180a01806008060080e00806007f9ff00e0180600801ff80200802017fe007fe02,
  0x801fe7fe01802008020180201806018060280a018020180e0280e0180a0280a01806008060080a00806007f9ff00e0280600801fe80200802017fe007fe02,
  0x801fe7fe01802008020180201806018060380e018020180a0180a0180e0380a01806008060080a00806007f9ff00e0280600801fd80200802017fe007fe02,
  0x801ff7fe018020080201802018060180600806027fe0080e00806018020180a01806008060080dff802007fdff00e0180600801ff80200802027fa007fa03,
  0x801ff7fe018020080201802018060180e0280e0380602805ff802037fe008120280e0380a0381a0080a017fe0080a018060080600811ff802007fdff0120380600801ff80200802037f6007f604,
  0x801ff7fe0180200802018020280601806018060680603805ff802037fe0082a0381601806018260080e017fe0080e018060080600811ff802007fdff0120180600801ff80200802037f6007f605,
  0x801ff7fe01802008020180201806018060380e0180201809fd802017fe00811fd806027f60080a0180a0180e0380a018060080600809ff802007fdff0120680600801fd80200802027fa007fa03,
  0x801ff7fe0180200802018020180601816048160480a0380a00806057fa008160381205812058260080e028020180a018060080600819fe802007fdff0120580600801ff80200802057ee007ee06,
  0x801fe7fe01802008020180203806028060080602802018160180e01802018120180a008060080e00806007f9ff00e0180600801ff80200802027fe007fe02,
  0x801fe7fe018020080201802028060280e02812018020180e0180e0380a0480e0180a008060080a00806007f9ff00e0680600801fe80200802027fe007fe02,
  0x801fe7fe01802008020180202806028060180a018020180e0180e018060280e0180a008060080a00806007f9ff00e0380600801fd80200802027fe007fe02,
  0x801ff7fe01802008020180201806018060180a017fe0080a00806018060280a018060080600809ff802007fdff00e0180600801fe80200802027fa007fa03,
  0x7fdff7fe018020080201802048060180a01806087fe02805ff802027fe00831fd80a017fe008320080e028060181601806008060080dff801ff7fdff0120180600801ff80201802027fa017fa04,
  0x806017fdff802017fdff801ff8020280201809ff806037fa0181600806027fa0080dff7fe007fa0181201805ff00e017fe008060080201802017fe017fe01,
  0x7fdff7fdfd806037fe00805ff806028020280e008060180201801ff806017f202815ff802017fe0280e0080a037fe0280a00806007f202811ff7fdff012047fe018060080201802037f6017f603,
  0x801fe7fe018020080201802038060180601806038020181a0180a018060181201806008060081200806007f9ff00e0180600801ff80200802037f6007f606,
  0x7fdfe7fe01802007fe007fe0580a0180a0180603802018220280a028060181a02805ff801ff81200805ff7f9ff00e0180600801ff80201802037fa017fa03,
  0x801ff7fe01802008020180202806028060180a018020180e0180e018060280e0180a008060080a00806007fdff00e0180600801ff80200802027fe007fe01,
  0x801ff7fe01802008020180201806028060080a018020180e01812018020280a0180a008060080a00806007fdff00e0280600801fe80200802027fe007fe01,
  0x801ff7fe01802008020180201806028060080e018020180a0180e018020380a0180a008060080a00806007fdff00e0280600801fd80200802027fe007fe01,
  0x801ff7fe0180200802007fe01806018060180a028020180e0180a018060280a0180600801ff80e00806007fdff00e0180600801ff80200802037fa007fa02,
  0x801ff7fe0180200802007fe018060180e038120380a03806008060380201812038120380e0481a02812018020180a0180600801ff81200806007fdff0120380600801ff80200802047f6007f603,
  0x801ff7fe0180200802007fe0280601806018060680e0580600806038020182a0581e01806018260381a018020180e0180600801ff81200806007fdff0120180600801ff80200802057f6007f603,
  0x801ff7fe0180200802007fe01806018060380e018060280a0080e018020181201816028020380a0280e0180e0380a0180600801ff80a00806007fdff0120680600801fd80200802037fa007fa02,
  0x801ff7fe0180200802007fe01806018160581a0480e0480a0180a05802028160481605816068260381a028060280a0180600801ff81a0080a007fdff0120580600801ff80200802067ee007ee05,
  0x801fe7f601802008020180603806038060080602802018160181201802018120180e008060180e00806007f9fd00e0180600801ff80200802067f6007f602,
  0x801fe7f6018020080201806028060380e0281a018020180e018120380a0680e0180e008060180a00806007f9fd00e0680600801fe80200802067f6007f602,
  0x801fe7f601802008020180602806038060180e018020180e01812018060380e0180e008060180a00806007f9fd00e0380600801fd80200802067f6007f602,
  0x801ff7fe0180200802007fe01806018060280e018020180a0180a0180a0380a0180600801ff80a00806007fdff00e0180600801fe80200802037fa007fa02,
  0x7fdff7fe0180200802007fe048060180a018060880a058060080602802018320281e01802018320381a02806018160180600801ff80e00805ff7fdff0120180600801ff80600806047fa007fa02,
  0x7fdff7fdfd80e077fa02815ff80a04806007fdff806027f20582dfe80a057fa0381a01801ff7f204825ff7fdff00e017fe0180a0080600806017fe007fe01,
  0x7fdff7fdfd80e057fe01809ff80a03802038120080601802007fdff806017f205821ff806027fe038120080e047fe0280a00801ff7f204819ff7fdff012047fe018060080600806037f6007f603,
  0x801ff7fe018020080201802038060280600806038020181a0180e01802018120180a008060081200806007fdff00e0180600801ff80200802067f6007f603,
  0x7fdff7fa018020080601802038060280600806037fe0081a0080a01802018120180a0180600811ff801ff7fdfe00e0180600801ff80600806077f2007f203,
  0x801ff7fe01802008020180202806028060180a018020180e0180e018060280e0180a008060080a00806007fdff00e0180600801ff80200802027fe007fe01,
  0x801ff7fe01802008020180201806028060080a018020180e01812018020280a0180a008060080a00806007fdff00e0280600801fe80200802027fe007fe01,
  0x801ff7fe01802008020180201806028060080e018020180a0180e018020380a0180a008060080a00806007fdff00e0280600801fd80200802027fe007fe01,
  0x801ff7fe0180200802007fe02806018060180a018020180e0180a018060280e0180600801ff80a00806007fdff00e0180600801ff80200802037fe007fe01,
  0x801ff7fe0180200802007fe038060180601806038060380e01812018020181201812038060481a0281201806018120180600801ff80a00806007fdff0120380600801ff80200802047fe007fe01,
  0x801ff7fe0180200802007fe0380601806018060680a0580600806028020182a0281e01802018260381a01806018120180600801ff80e00806007fdff0120180600801ff80200802057fa007fa02,
  0x801ff7fe0180200802007fe018060180a0380e01806028060080e0180201812048160280e0380a0180e018020380a0180600801ff80a00806007fdff0120680600801fd80200802037fe007fe01,
  0x801ff7fe0180200802007fe0580a0280a0180a04806048160181a01802018160181605806068260381a028060281a0280a00801ff80a00806007fdff0120580600801ff80200802067fe007fe01,
  0x801fe7fe01802008020180203806028060080602802018160180e01802018120180a008060080e00806007f9ff00e0180600801ff80200802027fe007fe02,
  0x801fe7fe018020080201802028060280e02812018020180e0180e0380a0480e0180a008060080a00806007f9ff00e0680600801fe80200802027fe007fe02,
  0x801fe7fe01802008020180202806028060180a018020180e0180e018060280e0180a008060080a00806007f9ff00e0380600801fd80200802027fe007fe02,
  0x801ff7fe0180200802007fe01806018060180e018020180a0180a018060380a0180600801ff80a00806007fdff00e0180600801fe80200802037fe007fe01,
  0x801ff7fe01802007fe007fe0280601806018060880e0580a0080604802018320581e01806018320381a028020180e01805ff801ff81600806007fdff0120180600801ff7fe017fe047fa017fa02,
  0x7fe007fdff7fe00801ff802008020180201805ff802017fe0080a00806017fdff806007fe007f9ff805ff801ff00e017fdff802007fe017fe018020180200,
  0x801ff7fe008020180201811ff806037fe01809fd80a057fe007fdff802017f203821ff806027fe0181200806047f202819ff801ff7fe0080a007fdff012047fe00806007fe017fe038020180200,
  0x801ff7fe018020080201802038060280600806038020181a0180e01802018120180a008060081200806007fdff00e0180600801ff80200802067f6007f603,
  0x7fdff7fa01802007fe01802058060280a00806037fe008220080a028020181a01809ff80600811ff801ff7fdfe00e0180600801ff7fe017fe037fe017fe02,
  0x802017fe0280601806018060180201801ff802018020080e0180a018060180a00806007fe0080e0180600805ff00e0180600801ff80200802018020080201,
  0x802017fe01806018060080a0180201801ff802018020080e0180e018020280a00806007fe0080a0180600805ff00e0280600801fe80200802018020080201,
  0x802017fe01806018060080e0180201801ff802018020080a0180a018020380a00806007fe0080a0180600805ff00e0280600801fd80200802018020080201,
  0x802007fe0280600806018060180201801ff802018020080e01806018060180a00806007fe0080e0180200801ff00e0180600801ff80200802028020080201,
  0x802007fe038060080601802038060280e0180e0180201801ff80201802008120180e038060381a0280a018060080a00806007fe008120180200801ff0120380600801ff80200802038020080201,
  0x802007fe0380600806018020680a03806008060280201801ff802018020082a0281601802018260380e018060080e00806007fe008120180200801ff0120180600801ff80200802038020080202,
  0x802007fe018060080a0380201806018060080e0180201801ff8020180200812048060280e0080a0180a018020380a00806007fe0080a0180200801ff0120680600801fd80200802028020080201,
  0x802007fe0580a0080a018060480603816018160180201801ff80201802008160181205806058260380e028060180a00806007fe0081a0280200801ff0120580600801ff80200802058020080201,
  0x802017fe0380601806008060280201801fe80601802008160180a018020180e00806007fa018120180600805ff00e0180600801ff80200802028060080602,
  0x802017fe028060180e0280a0180201801fe806018020080e0180a0380a0280a00806007fa0180e0180600805ff00e0680600801fe80200802028060080602,
  0x802017fe0280601806018060180201801fe806018020080e0180a018060180a00806007fa0180e0180600805ff00e0380600801fd80200802028060080602,
  0x802007fe01806008060180a0180201801ff802018020080a01806018060280a00806007fe0080a0180200801ff00e0180600801fe80200802028020080201,
  0x7fe007fe0280600806018020880e0280a008060480201801ff80201802008320580a01806008320380e028020181600806007fe0080e01801ff801ff0120180600801ff80201802028020180202,
  0x7fe007fdff7fe01801ff806008020180201801ff802017fe0080a00806007fdff80a007fe017f9ff809ff801ff00e017fdff8060080201802018020180200,
  0x7fe007fdff80201801ff80200802018020180dff806027fe01805fd80a037f203815ff806017fe0180e00806037fe0080a007fe007f202811ff801ff012047fe008060080201802038020180200,
  0x802017fe0380601806008060380201801ff802018020081a0180a018020181200806007fe008120180600805ff00e0180600801ff80200802038020080203,
  0x7fdff7fe01802007fe017fe058060180a00806037fe018220080a028020181a01805ff805ff811ff805ff7fdff00e0180600801ff80201802038060180602,
  0x802017fa0280600806018020180201801ff806018020080e01806018060080a00806007fe0180e0180200805fe00e0180600801ff80200802028060080601,
  0x802017fa01806008060080a0180201801ff806018020080e0180a018020280a00806007fe0180a0180200805fe00e0280600801fe80200802028060080601,
  0x802017fa01806008060080e0180201801ff806018020080a01806018020380a00806007fe0180a0180200805fe00e0280600801fd80200802028060080601,
  0x802007fe02805ff806018020180201801ff806018020080e01802018060080a00806007fe0180e017fe00801ff00e0180600801ff80200802038060080601,
  0x802007fe03805ff806017fe038060180e0180a0180201801ff80601802008120180a038060281a0280201805ff80a00806007fe01812017fe00801ff0120380600801ff80200802048060080601,
  0x802007fe03805ff806017fe0680a01806008060280201801ff806018020082a0280e01802018260380201805ff80e00806007fe01812017fe00801ff0120180600801ff802008020580a0080a02,
  0x802007fe01805ff80a037f601806008060080e0180201801ff8060180200812047f60280dfd80a01806018020380a00806007fe0180a017fe00801ff0120680600801fd80200802038060080601,
  0x802007fe05809fe80a018020480602816018120180201801ff80601802008160180e058060482603802028060080a00806007fe0181a027fa00801ff0120580600801ff80200802068060080601,
  0x802017fa0380600806008060280201801fe80e018020081601806018020180e00806007fa038120180200805fe00e0180600801ff802008020680e0080e02,
  0x802017fa028060080e028020180201801fe80e018020080e018060380a0080a00806007fa0380e0180200805fe00e0680600801fe802008020680e0080e02,
  0x802017fa0280600806018020180201801fe80e018020080e01806018060080a00806007fa0380e0180200805fe00e0380600801fd802008020680e0080e02,
  0x802007fe01805ff806018060180201801ff806018020080a01802018060180a00806007fe0180a017fe00801ff00e0180600801fe80200802038060080601,
  0x7fe007fe02805ff806017fe0880dff80a008060480201801ff8060180200832057f601805ff83203802028020181600806007fe0180e017fdff801ff0120180600801ff806018060480a0180a02,
  0x7fe007fdff7fe02801ff80a0080201802017fdff802017fe0080a00805ff7fdff80e007fe027f9ff80dff801ff00e017fdff80a0080601806018020180200,
  0x7fe007fdff80201801ff806008020180201809ff806017fe01801fd80a017f203809ff806007fe0180a00806027fe0080a007fe017f202809ff801ff012047fe008060080601806038020180200,
  0x802017fa0380600806008060380201801ff806018020081a01806018020181200806007fe018120180200805fe00e0180600801ff802008020680e0080e03,
  0x7fe017fa058060080a00806037fe027fdff80201802008220080a0280201811ff809ff7fe0081a01801ff805fe00e0180600801ff806018060780e0180e02,
  0x802017fa0280600806018020180201801ff806018020080e01806018060080a00806007fe0180e0180200805fe00e0180600801ff80200802028060080601,
  0x802017fa01806008060080a0180201801ff806018020080e0180a018020280a00806007fe0180a0180200805fe00e0280600801fe80200802028060080601,
  0x802017fa01806008060080e0180201801ff806018020080a01806018020380a00806007fe0180a0180200805fe00e0280600801fd80200802028060080601,
  0x802007fe01805ff806018020280201801ff806018020080e01802018060080e00806007fe0180a017fe00801ff00e0180600801ff802008020380a0080a02,
  0x802007fe01805ff80e037fa03809ff806008060380201801ff8060180200812037fa0380dfe81a02802018020181200806007fe0180a017fe00801ff0120380600801ff802008020480e0080e03,
  0x802007fe02805ff806017fe0680dff806008060380201801ff806018020082a057f601805ff82603802018020181200806007fe0180e017fe00801ff0120180600801ff802008020580e0080e03,
  0x802007fe01805ff806037f6018060080a0080e0180201801ff80601802008120180e028020380a027fe0180dfd80a00806007fe0180a017fe00801ff0120680600801fd802008020380a0080a02,
  0x802007fe01805ff816057f20480dfe80a018020580202801ff8060180200816047f605815fc82603802028060081a0080a007fe0180a017fe00801ff0120580600801ff80200802068160081605,
  0x802017fe0380601806008060280201801fe80601802008160180a018020180e00806007fa018120180600805ff00e0180600801ff80200802028060080602,
  0x802017fe028060180e0280a0180201801fe806018020080e0180a0380a0280a00806007fa0180e0180600805ff00e0680600801fe80200802028060080602,
  0x802017fe0280601806018060180201801fe806018020080e0180a018060180a00806007fa0180e0180600805ff00e0380600801fd80200802028060080602,
  0x802007fe01805ff806027fe0180201801ff806018020080a0180201809ff80a00806007fe0180a017fe00801ff00e0180600801fe802008020380a0080a02,
  0x802007fe02805ff802017fe0480a01806008060280201805ff80601802008220280e018020181a0380200805ff80e00806017fe0180e017fe00801ff0120180600801ff7fe007fe0480a0080a02,
  0x7fe007fdff7fe00805ff805ff7fe0180200805ff802007f9ff80600802017f9fe806017fe017f9ff801ff801ff00e017fdff802007fe007fe018060080601,
  0x802007fdff7fe01805ff805fd7f6057fdff809fe7fe027f600805ff802007edfc81dff7fe027f5ff809fd802017f1fc81a017fe017f9ff80600801ff012047fdff806007fe007fe0380e0080e03,
  0x802017fa0380600806008060380201801ff806018020081a01806018020181200806007fe018120180200805fe00e0180600801ff802008020680e0080e03,
  0x7fe017fa018060080600806057fe02805ff802018020081a0080a0180201819ff80a017fe0080a01801ff805fe00e0180600801ff7fe007fe0380a0080a03,
  0x802017fe0180600806008060280201801fe806018020080e01806018020180e00806007fa0180a0180200805ff00e0180600801ff80200802018060080602,
  0x802017fe0180600806028020180201801fe806018020080e028060180a0080a00806007fa0180a0180200805ff00e0280600801fe80200802018060080602,
  0x802017fe0180600806038020180201801fe806018020080a018060180e0080a00806007fa0180a0180200805ff00e0280600801fd80200802018060080602,
  0x802017fe028060080600806017fe01801ff802018020080e008060180201809ff806007fe0080e0180200805ff00e0180600801ff802008020280a0080a03,
  0x802017fe038060080601802037fe0280dfe80e017fe01801ff8020180200811fe80e037fa0381a0080a0180600809ff806007fe008120180200805ff0120380600801ff802008020380e0080e04,
  0x802017fe038060080601802067fe03805ff806027fe01801ff8020180200829fd816017fe018260080e018060080dff806007fe008120180200805ff0120180600801ff802008020380e0080e05,
  0x802017fe018060080a038020180201805fd80e017fe01801ff8020180200812038060280e00809ff80a017f603809ff806007fe0080a0180200805ff0120680600801fd802008020280a0080a03,
  0x802017fe0580a0080a00806047fa03815fc816017fe01801ff8020180200815fd812057f2058260080e0280201809ff806007fe0081a0280200805ff0120580600801ff80200802058160081606,
  0x802037fa0280600806018020380201801fe806018020081601806018060081200806007fa0180e018020080dfe00e0180600801ff802008020280e0080e06,
  0x802037fa018060080e0080a0280201801fe806018020080e01806038020280e00806007fa0180a018020080dfe00e0680600801fe802008020280e0080e06,
  0x802037fa0180600806008060280201801fe806018020080e01806018020180e00806007fa0180a018020080dfe00e0380600801fd802008020280e0080e06,
  0x802017fe0180600805ff80a017fe01801ff802018020080a00806017fe02809ff806007fe0080a0180200805ff00e0180600801fe802008020280a0080a03,
  0x7fe017fe0280600806018020880602809ff806047fe01801ff80201802008320380a01806008320080e027fe01815ff806007fe0080e01801ff805ff0120180600801ff802018020280a0180a04,
  0x7fe017fdff7fa01801fe806007fe0180201801ff7fe017fdfe80a00806007fdfd80a007fa017f9fd809ff805ff00e017fdfe8060080201802018060180601,
  0x7fe017fdff7fe01801ff802007fe01801fe80dff7fe027fe00805fd7fe037f1fe815ff802017fdfe80e007fa037fdfe80a007fe007f1fe811ff805ff012047fdff80600802018020380e0180e03,
  0x802017fe0380600806018020380201801fe806018020081a01806018060081200806007fa018120180200805ff00e0180600801ff802008020380e0080e06,
  0x7fe007fe01809ff806018020580201805fe806018020081a02802018060081a00806017fa0180a027fdff801ff00e0180600801ff80201802038120181207,
  0x802037fa028060080601802017fe01801fe806018020080e008060180600809ff806007fa0180e018020080dfe00e0180600801ff802008020280e0080e05,
  0x802037fa0180600805fe80a017fe01801fe806018020080dff80a017fa02809ff806007fa0180a018020080dfe00e0280600801fe802008020280e0080e05,
  0x802037fa0180600805fd80e017fe01801fe806018020080a00806017f603809ff806007fa0180a018020080dfe00e0280600801fd802008020280e0080e05,
  0x802017fe02809ff80601802017fe01801fe806018020080e018020180600809ff806007fa0180e027fe00805ff00e0180600801ff80200802038120081206,
  0x802017fe03809ff806027fe038020180dff80a017fe01801fe8060180200811ff80a037fe0281a0280201809ff809ff806007fa01812027fe00805ff0120380600801ff80200802048160081607,
  0x802017fe03809ff806027fe0680601805ff806027fe01801fe8060180200829ff80e017fe018260380201809ff80dff806007fa01812027fe00805ff0120180600801ff802008020581e0081e0b,
  0x802017fe01809ff80a067f60180600805fd80e017fe01801fe8060180200812077f602819fd80a00806017f603809ff806007fa0180a027fe00805ff0120680600801fd80200802038120081206,
  0x802017fe05811fe80a01802047fe02815fd812017fe01801fe8060180200815fe80e057f604826038020280600809ff806007fa0181a047fa00805ff0120580600801ff802008020681e0081e09,
  0x802037fa0380600805ff806027fe01801fb80e018020081600806017fe0180dff806007ee03812018020080dfe00e0180600801ff8020080206826008260e,
  0x802037fa028060080e02802017fe01801fb80e018020080e008060380a00809ff806007ee0380e018020080dfe00e0680600801fe8020080206826008260e,
  0x802037fa028060080601802017fe01801fb80e018020080e008060180600809ff806007ee0380e018020080dfe00e0380600801fd8020080206826008260e,
  0x802017fe01809ff80600806017fe01801fe806018020080a018020180201809ff806007fa0180a027fe00805ff00e0180600801fe80200802038120081206,
  0x7fe017fe02809ff806027fe08811ff809ff806047fe01801fe8060180200832087f601809ff83203802027fe01815ff806007fa0180e027fdff805ff0120180600801ff806028060481a0281a0a,
  0x7fe017fdff7f602801fd80a007fe01802027fdff7fe017fdfe80a00809ff7fdfc80e007f6027f9fc80dff805ff00e017fdfd80a0080602806018060280601,
  0x7fe017fdff7fe01801fe806007fe01801ff809ff802017fe01801fd806017f201809ff806007fdff80a007fe027fdfe80a007fa017f200809ff805ff012047fdff80600806028060380e0280e03,
  0x802037fa0380600805ff806037fe01801fe806018020081a00806017fe01811ff806007fa01812018020080dfe00e0180600801ff8020080206826008260f,
  0x7fe037fa0580600809ff806037f6027fdff8020180200821fe80a027fe01811fd809ff7fe0081a01801ff80dfe00e0180600801ff806028060782a0282a0f,
  0x80dfd7fa01802007fa028060080601809ff802037fe0080e00806027fe0080601805fe80a01811ff802037f5fe00e0180600801ff7fe007fe017f6007f605,
  0x80dfd7fa01802007fa0280600806017fe0280a027fe0080a01809ff80a0280601805fe80a0180dff802037f5fe00e0280600801fe7fa007fa007f6007f605,
  0x80dfd7fa01802007fa0280600806017fa0380e027fe0080a00805fe80e0380601805fe80a0180dff802037f5fe00e0280600801fd7f6007f5ff7f6007f605,
  0x805ff7fe01802007fa028060080601809ff802047f9ff811ff802027fe0080601805fe80a01815fe7fe017fdff00e0180600801ff7fe007fe027f2007f206,
  0x805ff7fe01802007fa02806008060180a0180a038020180dfe7fe057f9ff80e0180a0280602821fe802037f9ff80601805fe80a01819fe7fe017fdff0120380600801ff7fe007fe037ee007ee07,
  0x805ff7fe01802007fa02806018060180201806077fe0180dfe7fe057f9ff8260180e0080601831fd802037f9ff80a01805fe80a01819fe7fe017fdff0120180600801ff7fe007fe047e6007e60b,
  0x805ff7fe01802007fa0280600806017fa0380e027fe00821fa7f6037f9ff82df97f6087e9fd80a00805fe80e0380601805fe80a01811fe7fe017fdff0120680600801fd7f6007f6007f2007f206,
  0x805ff7fe01802007fa02806008060180a03812038060280dff802097f1fe80e0280e0280e04831fd802037fe0080601805fe80a01829fc7fa017fdff0120580600801ff7fe007fe057e6007e609,
  0x809fe7fe01802007f60380601806018020180603802018120180a008060180a01805fd80e0181200806027f9ff00e0180600801ff7fe007fe017f6007f606,
  0x809fe7fe01802007f603806008060180e0080a028020180a0180a038020280601805fd80e0180e00806027f9ff00e0680600801fe7fa007fa007f6007f606,
  0x809fe7fe01802007f603806008060180600806028020180a0180a018020180601805fd80e0180e00806027f9ff00e0380600801fd7f6007f5ff7f6007f606,
  0x805ff7fe01802007fa02806008060180600806037f9ff80dff802018020180601805fe80a01811fe7fe017fdff00e0180600801fe7fa007fa017f2007f206,
  0x801ff7fe01802007fa028060380601806018060c7f1ff80dfe7fe047f9ff851f87f6037f9ff83dfd802018060181201805fe80a01815fe7fe007fdff0120180600801ff7fa027fa017f2027f20a,
  0x805fe7fe017fa0080200806007fe017fa03806007fe00805fd8060080201801fe805fe80e01805fd802017f9ff00e01801ff802007fe027fdff8060280601,
  0x801ff7fdfe7fe01801ff801ff802017fe01809ff806017fa02805fe806017f5ff80a007fe007fa01809ff806027f602809fe80a017f20080a007fdff012047fa01806007fe027fe017fe027fe03,
  0x80dfd7fa01802007fa02806028060180201806047fe0081a00806008060180e01805fe80a01815ff802037f5fe00e0180600801ff7fe007fe057de007de0f,
  0x809fd7fa01802007fa018020280e0280601806047fe0081a0280a018060180e03809fe80600815ff802027f5fe00e0180600801ff7fa027fa007fa027fa07,
  0x809fe7fe01802007fe01802008060180600806028020180a0180a018020180601805ff8060080e00806027f9ff00e0180600801ff7fe007fe007fe007fe02,
  0x809fe7fe01802007fe0180200806017fe0280a01802018060280dff80a0280601805ff8060080a00806027f9ff00e0280600801fe7fa007f9ff7fe007fe02,
  0x809fe7fe01802007fe0180200806017fa0380e018020180601809fe80e0380601805ff8060080a00806027f9ff00e0280600801fd7f6007f5fe7fe007fe02,
  0x805ff7fe01802007fe01802008060180600806037fe0080e00806018020180601805ff80600811ff802017fdff00e0180600801ff7fe007fe017fa007fa03,
  0x805ff7fe01802007fe0180200806018060280e0280602809ff802047fe0080a0280e0180a0381a0080a027fe0080601805ff80600815ff802017fdff0120380600801ff7fe007fe027f6007f604,
  0x805ff7fe01802007fe018020180601802018060580603809ff802047fe0081e0381600806018260080e027fe0080a01805ff80600815ff802017fdff0120180600801ff7fe007fe027f6007f605,
  0x805ff7fe01802007fe0180200806017fa0380e0180201815fd802027fe0081dfd806057f60080601809fe80e0380601805ff8060080dff802017fdff0120680600801fd7f6007f5ff7fa007fa03,
  0x805ff7fe01802007fe018020080601806048160280a0380a00806077fa0080a0381201812058260080e028020180601805ff80600821fe802017fdff0120580600801ff7fe007fe047ee007ee06,
  0x809fe7fe01802007fe0180202806028060080602802018120180e018020180e01809ff8060080e00806027f9ff00e0180600801ff7fe007fe017fe007fe02,
  0x809fe7fe01802007fe01802018060280602812018020180a0180e0180a0480a01809ff8060080a00806027f9ff00e0680600801fe7fa007fa007fe007fe02,
  0x809fe7fe01802007fe0180201806028020180a018020180a0180e008060280a01809ff8060080a00806027f9ff00e0380600801fd7f6007f5ff7fe007fe02,
  0x805ff7fe01802007fe0180200806018020180a027fe0080a00806008060280601805ff8060080dff802017fdff00e0180600801fe7fa007fa007fa007fa03,
  0x801ff7fe01802007fe01802038060180601806097fe02809ff802037fe0083dfd80a027fe008320080e018060181201805ff80600811ff802007fdff0120180600801ff7fe017fe017fe017fe04,
  0x802017fdff80201801ff801ff802027fe01809fe806037f601815ff806027fa0080e007fe007f60181200805ff00e017fe008060080201802018020180201,
  0x801ff7fdfc806037fe00805fe806027fa0280dff806017fe01801fe806017ea02815ff802017f60280dfe80a037f602809ff806007ea02812007fdff012047fa018060080201802037fa017fa03,
  0x809fe7fe01802007fe0180202806018020180603802018160180a008060180e01805ff8060081200806027f9ff00e0180600801ff7fe007fe027f6007f606,
  0x805fe7fe01802007fe007fe0380a0180601806038020181a0280a018060181202805ff801ff81200806017f9ff00e0180600801ff7fe017fe027fe017fe03,
  0x805ff7fe01802007fe0180201806028020180a018020180a0180e008060280a01809ff8060080a00806017fdff00e0180600801ff7fe007fe017fe007fe01,
  0x805ff7fe01802007fe0180200806028060080a018020180a01812018020280601809ff8060080a00806017fdff00e0280600801fe7fa007fa007fe007fe01,
  0x805ff7fe01802007fe0180200806028060080e01802018060180e018020380601809ff8060080a00806017fdff00e0280600801fd7f6007f5ff7fe007fe01,
  0x805ff7fe0180200802007fe00806018020180a028020180a0180a00806028060180600801ff80e00806017fdff00e0180600801ff7fe007fe027fa007fa02,
  0x805ff7fe0180200802007fe0080601802038120180a03806008060380201806038120080e048120281201802018060180600801ff81200806017fdff0120380600801ff7fe007fe037f6007f603,
  0x805ff7fe0180200802007fe0180601802018060380e058060080603802018160581e008060181a0381a018020180a0180600801ff81200806017fdff0120180600801ff7fe007fe047f6007f603,
  0x805ff7fe0180200802007fe00806017fa0380e008060280a0080e018020180e0181602802038020280dfe80e038060180600801ff80a00806017fdff0120680600801fd7f6007f6007fa007fa02,
  0x805ff7fe0180200802007fe00806018020581a0180e048060180a058020280604816008160681a0381a01806028060180600801ff81a0080a017fdff0120580600801ff7fe007fe057ee007ee05,
  0x809fe7f601802007fe01806028060380600806028020181201812018020180e0180dff8060180e00806027f9fd00e0180600801ff7fe007fe057f6007f602,
  0x809fe7f601802007fe0180601806038060281a018020180a018120180a0680a0180dff8060180a00806027f9fd00e0680600801fe7fa007fa047f6007f602,
  0x809fe7f601802007fe0180601806038020180e018020180a01812008060380a0180dff8060180a00806027f9fd00e0380600801fd7f6007f6037f6007f602,
  0x805ff7fe0180200802007fe00806017fe0280e018020180601809ff80a038060180600801ff80a00806017fdff00e0180600801fe7fa007fa017fa007fa02,
  0x801ff7fe0180200802007fe0380601806018060680a0580600806028020182a0281e01802018260381a01806018120180600801ff80e00806007fdff0120180600801ff80200802057fa007fa02,
  0x801ff7fdfa80e077f202815fd80a04806007fdfe806027de0582dfc80a057ee0381a01801ff7e204826007fdff00e017fa0180a0080600806037fe007fe01,
  0x801ff7fdfa80e057fa01809fd80a037f603811ff80601802007fdfe806017de05821fe806027f203811fd80e047f60280a00801ff7e20481a007fdff012047fa018060080600806057f6007f603,
  0x805ff7fe01802007fe0180202806028060080603802018160180e018020180e01809ff8060081200806017fdff00e0180600801ff7fe007fe057f6007f603,
  0x801ff7fa018020080201802028060280600806047fe0081a0080a018020180e0180a0080600815ff802007fdfe00e0180600801ff80200802087f2007f203,
  0x805ff7fe01802007fe0180201806028020180a018020180a0180e008060280a01809ff8060080a00806017fdff00e0180600801ff7fe007fe017fe007fe01,
  0x805ff7fe01802007fe0180200806028060080a018020180a01812018020280601809ff8060080a00806017fdff00e0280600801fe7fa007fa007fe007fe01,
  0x805ff7fe01802007fe0180200806028060080e01802018060180e018020380601809ff8060080a00806017fdff00e0280600801fd7f6007f5ff7fe007fe01,
  0x805ff7fe0180200802007fe01806018020180a018020180a0180a008060280a0180600801ff80a00806017fdff00e0180600801ff7fe007fe027fe007fe01,
  0x805ff7fe0180200802007fe028060180201806028060380a01812018020180e01812028060481202812008060180e0180600801ff80a00806017fdff0120380600801ff7fe007fe037fe007fe01,
  0x805ff7fe0180200802007fe0280601802018060480a058060080602802018220281e018020181a0381a008060180e0180600801ff80e00806017fdff0120180600801ff7fe007fe047fa007fa02,
  0x805ff7fe0180200802007fe00806017fe0380e00806028060080e018020180204815ff80e038060180e01802038060180600801ff80a00806017fdff0120680600801fd7f6007f6007fe007fe01,
  0x805ff7fe0180200802007fe0380a028060180a03806048120181a018020181201816048060681a0381a01806028120280a00801ff80a00806017fdff0120580600801ff7fe007fe057fe007fe01,
  0x809fe7fe01802007fe0180202806028060080602802018120180e018020180e01809ff8060080e00806027f9ff00e0180600801ff7fe007fe017fe007fe02,
  0x809fe7fe01802007fe01802018060280602812018020180a0180e0180a0480a01809ff8060080a00806027f9ff00e0680600801fe7fa007fa007fe007fe02,
  0x809fe7fe01802007fe0180201806028020180a018020180a0180e008060280a01809ff8060080a00806027f9ff00e0380600801fd7f6007f5ff7fe007fe02,
  0x805ff7fe0180200802007fe00806018020180e01802018060180a00806038060180600801ff80a00806017fdff00e0180600801fe7fa007fa017fe007fe01,
  0x805ff7fe01802007fe007fe0180601802018060580e0580a00806048020181e0581e00806018260381a028020180a01805ff801ff81600806017fdff0120180600801ff7fa017fa017fe017fe02,
  0x805fe7fe017fa01805ff80600802017fe01802007fe00805fe80a017fe01801ff805ff80600805fd806017f9ff00e01801ff802007fe017fdff8060180600,
  0x805ff7fe00802017fe01811fe806037fa01809fb80a057fe007fdff802017e603821fe806027fa01811ff806047ea02819ff801ff7fe0080a017fdff012047fe00806007fe017fe018060180600,
  0x805ff7fe01802007fe0180202806028060080603802018160180e018020180e01809ff8060081200806017fdff00e0180600801ff7fe007fe057f6007f603,
  0x801ff7fa01802007fa01802048060280a00806047fe008220080a028020181601809fe80600815ff802007fdfe00e0180600801ff7fa017fa008020180202,
  0x7fe017fe0180601802018060180201805ff802018020080a0180a008060180a00806017fe0080a01805ff805ff00e0180600801ff7fe007fe008020080201,
  0x7fe017fe00806018060080a0180201805ff802018020080a0180e018020280a00806017fe0080601805ff805ff00e0280600801fe7fa007f9ff8020080201,
  0x7fe017fe00806018060080e0180201805ff80201802008060180a018020380a00806017fe0080601805ff805ff00e0280600801fd7f6007f5fe8020080201,
  0x802007fe0180600802018060180201805ff802018020080a01806008060180a00806017fe0080a0180200801ff00e0180600801ff7fe007fe018020080201,
  0x802007fe028060080201802028060280a0180e0180201805ff802018020080e0180e02806038120280a008060080a00806017fe0080e0180200801ff0120380600801ff7fe007fe028020080201,
  0x802007fe0280600802018020480a03806008060280201805ff802018020082202816018020181a0380e008060080e00806017fe0080e0180200801ff0120180600801ff7fe007fe028020080202,
  0x802007fe00806007fe0380200806018060080e0180201805ff802018020080204805ff80e008060180a018020380a00806017fe008060180200801ff0120680600801fd7f6007f5ff8020080201,
  0x802007fe0380a00806018060380603812018160180201805ff802018020081201812048060581a0380e018060180a00806017fe008120280200801ff0120580600801ff7fe007fe048020080201,
  0x7fe017fe0280601806008060280201809fe80601802008120180a018020180e00806027fa0180e01805ff805ff00e0180600801ff7fe007fe018060080602,
  0x7fe017fe01806018060280a0180201809fe806018020080a0180a0180a0280a00806027fa0180a01805ff805ff00e0680600801fe7fa007fa008060080602,
  0x7fe017fe0180601802018060180201809fe806018020080a0180a008060180a00806027fa0180a01805ff805ff00e0380600801fd7f6007f5ff8060080602,
  0x802007fe00806008020180a0180201805ff802018020080601806008060280a00806017fe008060180200801ff00e0180600801fe7fa007fa008020080201,
  0x7fe007fe0180600802018020580e0280a008060480201805ff802018020081e0580a00806008260380e028020181600806017fe0080a01801ff801ff0120180600801ff7fe017fe018060180602,
  0x7fe017fe007fe01805fe806017fa03805ff80a0080201805fe812017fe02805fd812017fa01801ff809ff805ff00e01801ff8060080201802018060180600,
  0x7fe007fdff80201805ff80200802017fe0180dfe806027fa01805fb80a037e603815fe806017fa0180dff806037fe0080a017fe007ea02811ff801ff012047fe008060080201802038060180600,
  0x7fe017fe0280601806008060380201805ff80201802008160180a018020181200806017fe0080e01805ff805ff00e0180600801ff7fe007fe028020080203,
  0x801ff7fe01802007fa017fe048060180a00806047fe018220080a028020181601805fe805ff815ff806007fdff00e0180600801ff7fe017fe0280a0180a02,
  0x7fe017fa0180600802018020180201805ff806018020080a01806008060080a00806017fe0180a01801ff805fe00e0180600801ff7fe007fe018060080601,
  0x7fe017fa00806008060080a0180201805ff806018020080a0180a018020280a00806017fe0180601801ff805fe00e0280600801fe7fa007fa008060080601,
  0x7fe017fa00806008060080e0180201805ff806018020080601806018020380a00806017fe0180601801ff805fe00e0280600801fd7f6007f5ff8060080601,
  0x802007fe01805ff802018020180201805ff806018020080a01802008060080a00806017fe0180a017fe00801ff00e0180600801ff7fe007fe028060080601,
  0x802007fe02805ff802017fe028060180a0180a0180201805ff806018020080e0180a02806028120280200805ff80a00806017fe0180e017fe00801ff0120380600801ff7fe007fe038060080601,
  0x802007fe02805ff802017fe0480a01806008060280201805ff80601802008220280e018020181a0380200805ff80e00806017fe0180e017fe00801ff0120180600801ff7fe007fe0480a0080a02,
  0x802007fe00805ff7fe037f600806008060080e0180201805ff8060180200802047f5ff80dfd80601806018020380a00806017fe01806017fe00801ff0120680600801fd7f6007f6008060080601,
  0x802007fe03809fe806018020380602812018120180201805ff80601802008120180e048060481a03802018060080a00806017fe01812027fa00801ff0120580600801ff7fe007fe058060080601,
  0x7fe017fa0280600806008060280201809fe80e018020081201806018020180e00806027fa0380e01801ff805fe00e0180600801ff7fe007fe0580e0080e02,
  0x7fe017fa0180600806028020180201809fe80e018020080a018060180a0080a00806027fa0380a01801ff805fe00e0680600801fe7fa007fa0480e0080e02,
  0x7fe017fa0180600802018020180201809fe80e018020080a01806008060080a00806027fa0380a01801ff805fe00e0380600801fd7f6007f60380e0080e02,
  0x802007fe00805ff802018060180201805ff806018020080601802008060180a00806017fe01806017fe00801ff00e0180600801fe7fa007fa018060080601,
  0x7fe007fe01805ff802017fe0580dff80a008060480201805ff806018020081e057f600805ff82603802028020181600806017fe0180a017fdff801ff0120180600801ff802018020580e0180e02,
  0x7fe017fa007fe02805fe80e017fa05805ff80e0080201805fe81a017fe03805fd81e017fa03801ff80dff805fe00e01801ff80a0080601806038060180600,
  0x7fe007fdff80201805ff80600802017fe01809fe806017fa01801fb80a017e603809fe806007fa01809ff806027fe0080a017fe017ea02809ff801ff012047fe008060080601806058060180600,
  0x7fe017fa0280600806008060380201805ff806018020081601806018020181200806017fe0180e01801ff805fe00e0180600801ff7fe007fe0580e0080e03,
  0x7fa017fa048060080a00806047fe02801ff80201802008220080a0280201815ff80a007fe0081601801fe805fe00e0180600801ff80201802088120181202,
  0x7fe017fa0180600802018020180201805ff806018020080a01806008060080a00806017fe0180a01801ff805fe00e0180600801ff7fe007fe018060080601,
  0x7fe017fa00806008060080a0180201805ff806018020080a0180a018020280a00806017fe0180601801ff805fe00e0280600801fe7fa007fa008060080601,
  0x7fe017fa00806008060080e0180201805ff806018020080601806018020380a00806017fe0180601801ff805fe00e0280600801fd7f6007f5ff8060080601,
  0x802007fe00805ff802018020280201805ff806018020080a01802008060080e00806017fe01806017fe00801ff00e0180600801ff7fe007fe0280a0080a02,
  0x802007fe00805ff802037fa01809ff806008060380201805ff8060180200806037fa0080dfe81202802018020181200806017fe01806017fe00801ff0120380600801ff7fe007fe0380e0080e03,
  0x802007fe01805ff802017fe0380dff806008060380201805ff8060180200816057f600805ff81a03802018020181200806017fe0180a017fe00801ff0120180600801ff7fe007fe0480e0080e03,
  0x802007fe00805ff7fa037f6008060080a0080e0180201805ff806018020080e0180e0280203802027fdfe80dfd80a00806017fe01806017fe00801ff0120680600801fd7f6007f60080a0080a02,
  0x802007fe00805ff802057f20180dfe806018020580202805ff8060180200806047f600815fc81a03802018060081a0080a017fe01806017fe00801ff0120580600801ff7fe007fe058160081605,
  0x7fe017fe0280601806008060280201809fe80601802008120180a018020180e00806027fa0180e01805ff805ff00e0180600801ff7fe007fe018060080602,
  0x7fe017fe01806018060280a0180201809fe806018020080a0180a0180a0280a00806027fa0180a01805ff805ff00e0680600801fe7fa007fa008060080602,
  0x7fe017fe0180601802018060180201809fe806018020080a0180a008060180a00806027fa0180a01805ff805ff00e0380600801fd7f6007f5ff8060080602,
  0x802007fe00805ff7fe027fe0180201805ff806018020080601801ff809ff80a00806017fe01806017fe00801ff00e0180600801fe7fa007fa0180a0080a02,
  0x802007fe01805ff7fe017fe0280a01806008060280201809ff806018020081a0280e018020180e03801ff805ff80e00806027fe0180a017fe00801ff0120180600801ff7fa007fa0180a0080a02,
  0x7fa017fe007fe00805ff802017fe0180200806007fe01805fe80a0080201805fe806017fe00801fe805fe805ff00e01801ff802007fe007fdff8060080601,
  0x802007fe017fe0180dfd812017fa03801ff80a007f6057fa017fe007fe01805fb822007fe02809fd812037f604801fc819fe805ff805fe80a00801ff01204801ff806007fe007fe0180e0080e03,
  0x7fe017fa0280600806008060380201805ff806018020081601806018020181200806017fe0180e01801ff805fe00e0180600801ff7fe007fe0580e0080e03,
  0x7fa017fa008060080600806067fe02809ff802018020081a0080a018020181dff80a027fe0080601801fe805fe00e0180600801ff7fa007fa0080a0080a03,
  0x7fe017fe0080600806008060280201809fe806018020080a01806018020180e00806027fa0180601801ff805ff00e0180600801ff7fe007fe008060080602,
  0x7fe017fe00806007fe028020180201809fe806018020080602805ff80a0080a00806027fa0180601801ff805ff00e0280600801fe7fa007f9ff8060080602,
  0x7fe017fe00806007fa038020180201809fe806018020080601805fe80e0080a00806027fa0180601801ff805ff00e0280600801fd7f6007f5fe8060080602,
  0x7fe017fe018060080600806027fe01805ff802018020080e00806018020180dff806017fe0080a01801ff805ff00e0180600801ff7fe007fe0180a0080a03,
  0x7fe017fe028060080201802047fe02815fe80e027fe01805ff8020180200819fe80e057fa0381a0080a008060080dff806017fe0080e01801ff805ff0120380600801ff7fe007fe0280e0080e04,
  0x7fe017fe028060080201802077fe03809ff806037fe01805ff8020180200835fd816027fe018260080e0080600811ff806017fe0080e01801ff805ff0120180600801ff7fe007fe0280e0080e05,
  0x7fe017fe00806007fe038020180201811fd80e027fe01805ff802018020080603805ff80e0080dff80a047f60380dff806017fe0080601801ff805ff0120680600801fd7f6007f5ff80a0080a03,
  0x7fe017fe0380a0080a00806067fa03825fc816027fe01805ff8020180200821fd812097f2058260080e028020180dff806017fe0081202801ff805ff0120580600801ff7fe007fe048160081606,
  0x7f6037fa0180600802018020380201809fe806018020081201806008060081200806027fa0180a01801fd80dfe00e0180600801ff7fe007fe0180e0080e06,
  0x7f6037fa008060080e0080a0280201809fe806018020080a01806038020280e00806027fa0180601801fd80dfe00e0680600801fe7fa007fa0080e0080e06,
  0x7f6037fa0080600806008060280201809fe806018020080a01806018020180e00806027fa0180601801fd80dfe00e0380600801fd7f6007f5ff80e0080e06,
  0x7fe017fe0080600809ff80a027fe01805ff802018020080a00806027fe0280dff806017fe0080601801ff805ff00e0180600801fe7fa007fa0080a0080a03,
  0x7fa017fe018060080201802078060280dff806057fe01805ff80201802008260380a00806008320080e037fe01819ff806017fe0080a01801fe805ff0120180600801ff7fe017fe0180e0180e04,
  0x7fa017fe017fa01809fe806017fe017fe01802007fe01805fe809ff80600809fd80a027fa01805fd809fe805ff00e01805fe80600802018020180a0180a01,
  0x7fa017fe007fe01805ff802017fe01809fe80e007fe027fe00805fe7fe037f9fe815ff80201805fe80e027fa03805fe80a017fe007f9fe811fe805ff01204801ff8060080201802038120181203,
  0x7fe017fe0280600802018020380201809fe806018020081601806008060081200806027fa0180e01801ff805ff00e0180600801ff7fe007fe0280e0080e06,
  0x7fe007fdff809ff80201802058020180dfe806018020081202802008060081a00806037fa01802027fdff801ff00e0180600801ff7fe017fe028160181607,
  0x7f6037fa018060080201802027fe01809fe806018020080e00806008060080dff806027fa0180a01801fd80dfe00e0180600801ff7fe007fe0180e0080e05,
  0x7f6037fa008060080dfe80a027fe01809fe8060180200811ff80a037fa0280dff806027fa0180601801fd80dfe00e0280600801fe7fa007fa0080e0080e05,
  0x7f6037fa0080600811fd80e027fe01809fe806018020080a00806047f60380dff806027fa0180601801fd80dfe00e0280600801fd7f6007f5ff80e0080e05,
  0x7fe017fe00809ff80201802027fe01809fe806018020080a01802008060080dff806027fa01806027fdff805ff00e0180600801ff7fe007fe028120081206,
  0x7fe017fe01809ff7fe027fe0380201811ff80a027fe01809fe8060180200815ff80a047fe0281202801ff809ff80dff806027fa0180a027fdff805ff0120380600801ff7fe007fe038160081607,
  0x7fe017fe01809ff7fe027fe0580601809ff806037fe01809fe806018020082dff80e027fe0181a03801ff809ff811ff806027fa0180a027fdff805ff0120180600801ff7fe007fe0481e0081e0b,
  0x7fe017fdff809ff7f2067f60080600811fd80e027fe01809fe80601802007f6077f5fc819fd80a00806047f60380dff806027fa01802027fdff805ff0120680600801fd7f6007f6008120081206,
  0x7fe017fe01811fe80601802057fe02821fd812027fe01809fe806018020081dfe80e087f60481a03802018060080dff806027fa0180a047f9ff805ff0120580600801ff7fe007fe0581e0081e09,
  0x7f6037fa0280600809ff806037fe01815fb80e018020081600806027fe01811ff806057ee0380e01801fd80dfe00e0180600801ff7fe007fe05826008260e,
  0x7f6037fa018060080602802027fe01815fb80e018020080e008060180a0080dff806057ee0380a01801fd80dfe00e0680600801fe7fa007fa04826008260e,
  0x7f6037fa018060080201802027fe01815fb80e018020080e00806008060080dff806057ee0380a01801fd80dfe00e0380600801fd7f6007f603826008260e,
  0x7fe017fdff809ff80600806027fe01809fe806018020080601802018020180dff806027fa01802027fdff805ff00e0180600801fe7fa007fa018120081206,
  0x7fa017fe00809ff7fe027fe04811ff80dff806057fe01809fe8060180200812087f5ff809ff82603802037fe01819ff806027fa01806027fdfe805ff0120180600801ff8020280205822028220a,
  0x7fa017fe027f60280dfd80a017fe017fa027fe007fe01805fe809fe809ff80dfc80e037f602809fc80dfe805ff00e01809fd80a00806028060380e0280e01,
  0x7fa017fe007fe01809fe806017fe01805ff809ff802017fa01801fc806017ee01809fe80600801ff80a017fe02805fe80a027fa017f200809fe805ff01204801ff8060080602806058160281603,
  0x7f6037fa0280600809ff806047fe01809fe806018020081a00806027fe01815ff806027fa0180e01801fd80dfe00e0180600801ff7fe007fe05826008260f,
  0x7f2037fa048060080dff806067f602801ff8020180200829fe80a037fe0181dfd80a007fe0081601801fc80dfe00e0180600801ff8020280208832028320f]
def dgN (c i : Nat) : Int := ((c / 1024 ^ i % 1024 : Nat) : Int) - 512
def drN (c i : Nat) : Row := ⟨dgN c i, dgN c (i + 1), dgN c (i + 2)⟩
def dlN (c : Nat) : Nat → Nat → List (Row × Row)
  | 0, _ => []
  | k + 1, i => (drN c i, drN c (i + 3)) :: dlN c k (i + 6)
def codeN (n : Int) : Nat := codeT.getD (n % 459).toNat 0
def cntC (c : Nat) : Nat := c / 1024 ^ 13 % 1024
def wC (c : Nat) : List (Row × Row) := dlN c (cntC c) 14
def roomW (n : Int) : List (Row × Row) := wC (codeN n)
def WT (n : Int) : List Row := (roomW n).map (·.1)
/-! ### outward roots without an order -/
def rowsU (m : Mat) (q : PT4) (a n : Int) : List Row := if a % q.g = 0 then (lyP m q a n).map (lyR m q a) else []
def orRU (m : Mat) (p : Row) (n a : Int) : List Row := ((rowsU m (layN m p n) (-a) n).filter bareB).filter (outB m p)
def orEU (m : Mat) (p : Row) (n a : Int) : List NR := (orRU m p n a).map fun r => (a * a * (2 * lastM m / n), r)
def orNU (m : Mat) (p : Row) (b n : Int) : List NR := (List.range (orC m p b n)).flatMap fun (i : Nat) => orEU m p n (0 + (i : Int) * (layN m p n).g)
def orPU (m : Mat) (p : Row) (b : Int) : List NR := (kindsM m).flatMap (orNU m p b)
theorem flat_perm {α β : Type} {f g : α → List β} : ∀ {l : List α}, (∀ x ∈ l, (f x).Perm (g x)) → (l.flatMap f).Perm (l.flatMap g)
  | [], _ => List.Perm.refl _
  | x :: l, h => by
    rw [List.flatMap_cons, List.flatMap_cons]
    exact (h x (List.mem_cons_self ..)).append (flat_perm fun y hy => h y (List.mem_cons_of_mem _ hy))
theorem rowsU_perm (m : Mat) (q : PT4) (a n : Int) : (rowsM m q a n).Perm (rowsU m q a n) := by
  unfold rowsM rowsU
  split
  · exact sortR_perm _
  · exact List.Perm.refl _
theorem orP_perm (m : Mat) (p : Row) (b : Int) : (orP m p b).Perm (orPU m p b) := by
  unfold orP orPU
  refine flat_perm fun n _ => ?_
  unfold orN orNU
  refine flat_perm fun i _ => ?_
  unfold orE orEU orR orRU
  exact (((rowsU_perm _ _ _ _).filter _).filter _).map _
/-! ### in order, by insertion -/
def insP (p : NR) : List NR → List NR
  | [] => [p]
  | q :: l => if pairLe p q = true then p :: q :: l else q :: insP p l
def isoP : List NR → List NR
  | [] => []
  | p :: l => insP p (isoP l)
theorem insP_perm (p : NR) : ∀ l : List NR, (insP p l).Perm (p :: l)
  | [] => List.Perm.refl _
  | q :: l => by
    unfold insP
    split
    · exact List.Perm.refl _
    · exact ((insP_perm p l).cons q).trans (List.Perm.swap p q l)
theorem isoP_perm : ∀ l : List NR, (isoP l).Perm l
  | [] => List.Perm.refl _
  | p :: l => (insP_perm p _).trans ((isoP_perm l).cons p)
theorem insP_le (p : NR) : ∀ {l : List NR}, (l.Pairwise fun p q => pkey p ≤ pkey q) → ((insP p l).Pairwise fun p q => pkey p ≤ pkey q)
  | [], _ => List.pairwise_singleton _ _
  | q :: l, h => by
    unfold insP
    obtain ⟨h1, h2⟩ := List.pairwise_cons.mp h
    split
    · rename_i z
      have z' : pkey p ≤ pkey q := of_decide_eq_true z
      refine List.pairwise_cons.mpr ⟨fun x hx => ?_, h⟩
      rcases List.mem_cons.1 hx with rfl | hx
      · exact z'
      · exact List.le_trans z' (h1 x hx)
    · rename_i z
      have z' : ¬ pkey p ≤ pkey q := fun h => z (decide_eq_true h)
      have z2 : pkey q ≤ pkey p := (List.le_total (pkey q) (pkey p)).resolve_right z'
      refine List.pairwise_cons.mpr ⟨fun x hx => ?_, insP_le p h2⟩
      rcases List.mem_cons.1 ((insP_perm p l).mem_iff.1 hx) with rfl | hx
      · exact z2
      · exact h1 x hx
theorem isoP_le : ∀ l : List NR, (isoP l).Pairwise fun p q => pkey p ≤ pkey q
  | [] => List.Pairwise.nil
  | p :: l => insP_le p (isoP_le l)
theorem sortP_iso {ps qs : List NR} (h : ps.Perm qs) : sortP ps = isoP qs := sortP_unique ((isoP_perm qs).trans h.symm) (isoP_le qs)
/-! ### a lesser depth -/
theorem kinds_dvd {m : Mat} {n : Int} (h : n ∈ kindsM m) : n ∣ 2 * lastM m := by
  unfold kindsM at h
  exact Int.dvd_of_emod_eq_zero (of_decide_eq_true (List.mem_filter.mp h).2)
theorem key_le {m : Mat} {n b a : Int} (h : n ∈ kindsM m) : a * a * (2 * lastM m / n) ≤ b * (2 * lastM m) ↔ a * a ≤ b * n := by
  obtain ⟨h0, _⟩ := kinds_mem h
  obtain ⟨t, ht⟩ := kinds_dvd h
  have e : 2 * lastM m / n = t := by
    rw [ht]
    exact Int.mul_ediv_cancel_left _ (by omega)
  have tp : 0 < t := by
    have : 0 < n * t := by
      rw [← ht]
      have := (kinds_mem h).2
      omega
    refine Int.not_le.1 fun z => ?_
    have h2 := Int.mul_le_mul_of_nonneg_left z (show 0 ≤ n by omega)
    rw [Int.mul_zero] at h2
    omega
  rw [e, ht, show b * (n * t) = (b * n) * t by rw [Int.mul_assoc]]
  exact ⟨fun z => Int.le_of_mul_le_mul_right z tp, fun z => Int.mul_le_mul_of_nonneg_right z (Int.le_of_lt tp)⟩
theorem lt_orC {m : Mat} {p : Row} {b n : Int} (hg : 0 < (layN m p n).g) (hb : 0 ≤ b * n) (i : Nat) : i < orC m p b n ↔ (0 + (i : Int) * (layN m p n).g) * (0 + (i : Int) * (layN m p n).g) ≤ b * n := by
  unfold orC
  generalize (layN m p n).g = g at *
  have hs := isq_spec hb
  have hn := isq_nn (b * n)
  have h0 : 0 ≤ (i : Int) * g := Int.mul_nonneg (by omega) (by omega)
  have e1 : i < rgN 0 (isq (b * n) + 1) g ↔ (i : Int) * g ≤ isq (b * n) := by
    unfold rgN
    rw [if_pos (by omega)]
    have ee : isq (b * n) + 1 - 0 - 1 = isq (b * n) := by omega
    rw [ee]
    have hd : 0 ≤ isq (b * n) / g := Int.ediv_nonneg hn (by omega)
    constructor
    · intro z
      have z2 : (i : Int) ≤ isq (b * n) / g := by omega
      have := Int.mul_le_mul_of_nonneg_right z2 (show 0 ≤ g by omega)
      have h3 := Int.ediv_mul_le (isq (b * n)) (show g ≠ 0 by omega)
      omega
    · intro z
      have := (Int.le_ediv_iff_mul_le hg).2 z
      omega
  rw [e1, Int.zero_add]
  constructor
  · intro z
    have := Int.mul_le_mul z z h0 hn
    omega
  · intro z
    refine Int.not_lt.1 fun z2 => ?_
    have := Int.mul_le_mul (show isq (b * n) + 1 ≤ (i : Int) * g by omega) (show isq (b * n) + 1 ≤ (i : Int) * g by omega) (by omega) h0
    omega
theorem range_filter (f : Nat → Bool) {c c' : Nat} (h : c ≤ c') (hf : ∀ i, i < c' → (f i = true ↔ i < c)) {α : Type} (g : Nat → List α) (t : α → Bool) (ht : ∀ i, i < c' → ∀ x ∈ g i, t x = f i) : ((List.range c').flatMap g).filter t = (List.range c).flatMap g := by
  obtain ⟨k, rfl⟩ := Nat.exists_eq_add_of_le h
  rw [List.range_add, List.flatMap_append, List.filter_append]
  have e1 : ((List.range c).flatMap g).filter t = (List.range c).flatMap g := by
    refine List.filter_eq_self.2 fun x hx => ?_
    obtain ⟨i, hi, hx⟩ := List.mem_flatMap.mp hx
    have hi := List.mem_range.1 hi
    rw [ht i (by omega) x hx]
    exact (hf i (by omega)).2 hi
  have e2 : (((List.range k).map fun x => c + x).flatMap g).filter t = [] := by
    refine List.filter_eq_nil_iff.2 fun x hx => ?_
    obtain ⟨i, hi, hx⟩ := List.mem_flatMap.mp hx
    obtain ⟨j, hj, rfl⟩ := List.mem_map.mp hi
    have hj := List.mem_range.1 hj
    rw [ht (c + j) (by omega) x hx]
    intro z
    have := (hf (c + j) (by omega)).1 z
    omega
  rw [e1, e2, List.append_nil]
theorem filter_flat {α β : Type} (f : α → List β) (t : β → Bool) : ∀ l : List α, (l.flatMap f).filter t = l.flatMap fun x => (f x).filter t
  | [] => rfl
  | x :: l => by rw [List.flatMap_cons, List.filter_append, List.flatMap_cons, filter_flat f t l]
theorem flat_congr {α β : Type} {f g : α → List β} : ∀ {l : List α}, (∀ x ∈ l, f x = g x) → l.flatMap f = l.flatMap g
  | [], _ => rfl
  | x :: l, h => by rw [List.flatMap_cons, List.flatMap_cons, h x (List.mem_cons_self ..), flat_congr fun y hy => h y (List.mem_cons_of_mem _ hy)]
def keyB (m : Mat) (b : Int) (q : NR) : Bool := decide (q.1 ≤ b * (2 * lastM m))
/-- the roots up to a lesser depth are those whose key is less -/
theorem orPU_filter {m : Mat} {p : Row} {b b' : Int} (hg : ∀ k ∈ kindsM m, 0 < (layN m p k).g) (h0 : 0 ≤ b) (h : b ≤ b') : (orPU m p b').filter (keyB m b) = orPU m p b := by
  unfold orPU
  rw [filter_flat]
  refine flat_congr fun n hn => ?_
  obtain ⟨n0, _⟩ := kinds_mem hn
  have hbn : 0 ≤ b * n := Int.mul_nonneg h0 (by omega)
  have hbn' : b * n ≤ b' * n := Int.mul_le_mul_of_nonneg_right h (by omega)
  unfold orNU
  refine range_filter (fun i => decide (i < orC m p b n)) ?_ (fun i hi => by simp) _ _ ?_
  · refine Nat.not_lt.1 fun z => ?_
    have h1 := (lt_orC (hg n hn) hbn (orC m p b' n)).1 z
    have h2 : ¬ orC m p b' n < orC m p b' n := Nat.lt_irrefl _
    rw [lt_orC (hg n hn) (by omega)] at h2
    omega
  · intro i hi x hx
    unfold orEU at hx
    obtain ⟨r, _, rfl⟩ := List.mem_map.mp hx
    unfold keyB
    refine decide_eq_decide.2 ?_
    rw [key_le hn, lt_orC (hg n hn) hbn]
/-! ### by evaluation -/
def aloneB (m : Mat) (ws : List (Row × Row)) (r : Row) : Bool := ws.all fun w => decide (r = w.1) || decide (dot r (image m w.2) < 0)
def evB (n : Int) (L : List NR) : Bool := decide (L.length ≤ 100000) && (decide (waM (choF n) (choP n) (isoP (L.filter (keyB (choF n) (choE n).bd))) = WT n) && L.all fun q => aloneB (choF n) (roomW n) q.2)
def evR (n : Int) : Bool := (decide (0 ≤ (choE n).bd) && decide ((choE n).bd ≤ 400)) && evB n (orPU (choF n) (choP n) ((choE n).bd + 1))
theorem ev_a0 : (List.range 17).all (fun i => evR ((0 + i : Nat) : Int)) = true := by decide +kernel
theorem ev_a1 : (List.range 17).all (fun i => evR ((17 + i : Nat) : Int)) = true := by decide +kernel
theorem ev_a2 : (List.range 17).all (fun i => evR ((34 + i : Nat) : Int)) = true := by decide +kernel
theorem ev_a3 : (List.range 17).all (fun i => evR ((51 + i : Nat) : Int)) = true := by decide +kernel
theorem ev_a4 : (List.range 17).all (fun i => evR ((68 + i : Nat) : Int)) = true := by decide +kernel
theorem ev_a5 : (List.range 17).all (fun i => evR ((85 + i : Nat) : Int)) = true := by decide +kernel
theorem ev_a6 : (List.range 17).all (fun i => evR ((102 + i : Nat) : Int)) = true := by decide +kernel
theorem ev_a7 : (List.range 17).all (fun i => evR ((119 + i : Nat) : Int)) = true := by decide +kernel
theorem ev_a8 : (List.range 17).all (fun i => evR ((136 + i : Nat) : Int)) = true := by decide +kernel
theorem ev_a9 : (List.range 17).all (fun i => evR ((153 + i : Nat) : Int)) = true := by decide +kernel
theorem ev_a10 : (List.range 17).all (fun i => evR ((170 + i : Nat) : Int)) = true := by decide +kernel
theorem ev_a11 : (List.range 17).all (fun i => evR ((187 + i : Nat) : Int)) = true := by decide +kernel
theorem ev_a12 : (List.range 17).all (fun i => evR ((204 + i : Nat) : Int)) = true := by decide +kernel
theorem ev_a13 : (List.range 17).all (fun i => evR ((221 + i : Nat) : Int)) = true := by decide +kernel
theorem ev_a14 : (List.range 17).all (fun i => evR ((238 + i : Nat) : Int)) = true := by decide +kernel
theorem ev_a15 : (List.range 17).all (fun i => evR ((255 + i : Nat) : Int)) = true := by decide +kernel
theorem ev_a16 : (List.range 17).all (fun i => evR ((272 + i : Nat) : Int)) = true := by decide +kernel
theorem ev_a17 : (List.range 17).all (fun i => evR ((289 + i : Nat) : Int)) = true := by decide +kernel
theorem ev_a18 : (List.range 17).all (fun i => evR ((306 + i : Nat) : Int)) = true := by decide +kernel
theorem ev_a19 : (List.range 17).all (fun i => evR ((323 + i : Nat) : Int)) = true := by decide +kernel
theorem ev_a20 : (List.range 17).all (fun i => evR ((340 + i : Nat) : Int)) = true := by decide +kernel
theorem ev_a21 : (List.range 17).all (fun i => evR ((357 + i : Nat) : Int)) = true := by decide +kernel
theorem ev_a22 : (List.range 17).all (fun i => evR ((374 + i : Nat) : Int)) = true := by decide +kernel
theorem ev_a23 : (List.range 17).all (fun i => evR ((391 + i : Nat) : Int)) = true := by decide +kernel
theorem ev_a24 : (List.range 17).all (fun i => evR ((408 + i : Nat) : Int)) = true := by decide +kernel
theorem ev_a25 : (List.range 17).all (fun i => evR ((425 + i : Nat) : Int)) = true := by decide +kernel
theorem ev_a26 : (List.range 17).all (fun i => evR ((442 + i : Nat) : Int)) = true := by decide +kernel
end Cz

/-! MG: what the evaluation says of a room. -/
namespace Cz
open PySem PySem.Spec PyProof.Rows L2 Kx
theorem all_join {p : Nat → Bool} {a b : Nat} (h1 : (List.range a).all p = true) (h2 : (List.range b).all (fun i => p (a + i)) = true) : (List.range (a + b)).all p = true := by
  rw [List.range_add, List.all_append, h1, Bool.true_and, List.all_map]
  exact h2
theorem evR_all : (List.range 459).all (fun i => evR (i : Nat)) = true := by
  have e0 : (List.range 17).all (fun i => evR (i : Nat)) = true := by simpa using ev_a0
  have e1 := all_join (p := fun i => evR (i : Nat)) (a := 17) (b := 17) e0 ev_a1
  have e2 := all_join (p := fun i => evR (i : Nat)) (a := 34) (b := 17) e1 ev_a2
  have e3 := all_join (p := fun i => evR (i : Nat)) (a := 51) (b := 17) e2 ev_a3
  have e4 := all_join (p := fun i => evR (i : Nat)) (a := 68) (b := 17) e3 ev_a4
  have e5 := all_join (p := fun i => evR (i : Nat)) (a := 85) (b := 17) e4 ev_a5
  have e6 := all_join (p := fun i => evR (i : Nat)) (a := 102) (b := 17) e5 ev_a6
  have e7 := all_join (p := fun i => evR (i : Nat)) (a := 119) (b := 17) e6 ev_a7
  have e8 := all_join (p := fun i => evR (i : Nat)) (a := 136) (b := 17) e7 ev_a8
  have e9 := all_join (p := fun i => evR (i : Nat)) (a := 153) (b := 17) e8 ev_a9
  have e10 := all_join (p := fun i => evR (i : Nat)) (a := 170) (b := 17) e9 ev_a10
  have e11 := all_join (p := fun i => evR (i : Nat)) (a := 187) (b := 17) e10 ev_a11
  have e12 := all_join (p := fun i => evR (i : Nat)) (a := 204) (b := 17) e11 ev_a12
  have e13 := all_join (p := fun i => evR (i : Nat)) (a := 221) (b := 17) e12 ev_a13
  have e14 := all_join (p := fun i => evR (i : Nat)) (a := 238) (b := 17) e13 ev_a14
  have e15 := all_join (p := fun i => evR (i : Nat)) (a := 255) (b := 17) e14 ev_a15
  have e16 := all_join (p := fun i => evR (i : Nat)) (a := 272) (b := 17) e15 ev_a16
  have e17 := all_join (p := fun i => evR (i : Nat)) (a := 289) (b := 17) e16 ev_a17
  have e18 := all_join (p := fun i => evR (i : Nat)) (a := 306) (b := 17) e17 ev_a18
  have e19 := all_join (p := fun i => evR (i : Nat)) (a := 323) (b := 17) e18 ev_a19
  have e20 := all_join (p := fun i => evR (i : Nat)) (a := 340) (b := 17) e19 ev_a20
  have e21 := all_join (p := fun i => evR (i : Nat)) (a := 357) (b := 17) e20 ev_a21
  have e22 := all_join (p := fun i => evR (i : Nat)) (a := 374) (b := 17) e21 ev_a22
  have e23 := all_join (p := fun i => evR (i : Nat)) (a := 391) (b := 17) e22 ev_a23
  have e24 := all_join (p := fun i => evR (i : Nat)) (a := 408) (b := 17) e23 ev_a24
  have e25 := all_join (p := fun i => evR (i : Nat)) (a := 425) (b := 17) e24 ev_a25
  have e26 := all_join (p := fun i => evR (i : Nat)) (a := 442) (b := 17) e25 ev_a26
  exact e26
theorem choE_mod' (n : Int) : choE n = choE (n % 459) := (cho_mod n).1
theorem roomW_mod (n : Int) : roomW n = roomW (n % 459) := by
  unfold roomW codeN
  rw [Int.emod_emod_of_dvd n (Int.dvd_refl 459)]
theorem evR_ok (n : Int) : evR n = true := cho_all (p := evR) (fun n => by unfold evR evB WT; rw [← choF_mod, ← choP_mod, ← choE_mod', ← roomW_mod]) evR_all n
/-- a room's walls, and what is known of its outward roots -/
theorem room_ev (n : Int) : (0 ≤ (choE n).bd ∧ (choE n).bd ≤ 400) ∧ (orP (choF n) (choP n) ((choE n).bd + 1)).length ≤ 100000 ∧ waM (choF n) (choP n) (sortP (orP (choF n) (choP n) (choE n).bd)) = WT n ∧
    ∀ q ∈ orP (choF n) (choP n) ((choE n).bd + 1), aloneB (choF n) (roomW n) q.2 = true := by
  have h := evR_ok n
  unfold evR evB at h
  rw [Bool.and_eq_true, Bool.and_eq_true, Bool.and_eq_true, Bool.and_eq_true, decide_eq_true_eq, decide_eq_true_eq, decide_eq_true_eq, decide_eq_true_eq, List.all_eq_true] at h
  obtain ⟨⟨b0, b1⟩, hl, hw, ha⟩ := h
  have hp := orP_perm (choF n) (choP n) ((choE n).bd + 1)
  obtain ⟨_, hL⟩ := room_lat n b0 (show (choE n).bd ≤ 500 by omega)
  refine ⟨⟨b0, b1⟩, by rw [hp.length_eq]; exact hl, ?_, fun q hq => ha q (hp.mem_iff.1 hq)⟩
  rw [sortP_iso (orP_perm _ _ _), ← orPU_filter (b' := (choE n).bd + 1) (fun k hk => (hL k hk).2.1.hg) b0 (by omega)]
  exact hw
end Cz

/-! MH: a room's outward roots at any depth: they are few; they are roots. -/
namespace Cz
open PySem PySem.Spec PyProof.Rows L2 Kx
/-! ### what is listed are just the outward roots -/
theorem kind_dvd1 {n i : Int} (h0 : 0 < n) (h : n ∣ 2 * i) : kindN n ∣ i := by
  unfold kindN
  have e : gI n 2 = gI 2 n := by unfold gI; rw [Nat.gcd_comm]
  rw [e]
  exact (int_narrow h0 (by decide)).2 (by rw [Int.mul_comm]; exact h)
theorem orP_all {m : Mat} {p r : Row} {b : Int} (hA : formOk m = true) (hp : Q m p < 0) (h0 : 0 ≤ b) (hr : RootS m r) (ho : outB m p r = true) (hk : Q m r ∈ kindsM m) (hb : dot r (image m p) * dot r (image m p) ≤ b * Q m r) :
    (dot r (image m p) * dot r (image m p) * (2 * lastM m / Q m r), r) ∈ orP m p b := by
  have n0 := hr.pos
  have L := lat_ok hA hp (kindN_pos n0)
  have hg : 0 < (layN m p (Q m r)).g := L.g
  have hout := out_le ho
  have hd : kindN (Q m r) ∣ (image m r).x ∧ kindN (Q m r) ∣ (image m r).y ∧ kindN (Q m r) ∣ (image m r).z := ⟨kind_dvd1 n0 hr.dx, kind_dvd1 n0 hr.dy, kind_dvd1 n0 hr.dz⟩
  have hmem := (mem_lay hA hp (kindN_pos n0) (dot (image m p) r) (Q m r) r).2 ⟨hd, rfl, rfl⟩
  have hz : dot (image m p) r % (layN m p (Q m r)).g = 0 := by
    unfold rowsM at hmem
    split at hmem
    · assumption
    · cases hmem
  obtain ⟨t, ht⟩ := Int.dvd_of_emod_eq_zero hz
  rw [dot_comm r] at hout hb ⊢
  generalize hgg : (layN m p (Q m r)).g = g at *
  have t0 : t ≤ 0 := Int.not_lt.1 fun z => by
    have := Int.mul_pos hg z
    omega
  have hi : (((-t).toNat : Nat) : Int) = -t := Int.toNat_of_nonneg (by omega)
  have ea : 0 + (((-t).toNat : Nat) : Int) * g = -(dot (image m p) r) := by
    rw [hi, ht]
    grind
  have hc : (-t).toNat < orC m p b (Q m r) := by
    rw [lt_orC (by rw [hgg]; exact hg) (Int.mul_nonneg h0 (by omega)), hgg, ea, Int.neg_mul_neg]
    exact hb
  unfold orP
  refine List.mem_flatMap.mpr ⟨Q m r, hk, ?_⟩
  unfold orN
  refine List.mem_flatMap.mpr ⟨(-t).toNat, List.mem_range.2 hc, ?_⟩
  rw [hgg, ea]
  unfold orE orR
  refine List.mem_map.mpr ⟨r, List.mem_filter.mpr ⟨List.mem_filter.mpr ⟨?_, ?_⟩, ho⟩, ?_⟩
  · rw [Int.neg_neg]
    exact hmem
  · unfold bareB
    rw [decide_eq_true_eq, hr.bare]
    rfl
  · rw [Int.neg_mul_neg]
end Cz

/-! MI: rows behind all walls of a room are inside or on the rim; so a room has no other walls at any depth. -/
namespace Cz
open PySem PySem.Spec PyProof.Rows L2 Kx
def polyN (n : Int) : List (Row × Row) := dlN (codeN n) (cntC (codeN n)) (14 + 6 * cntC (codeN n))
/-! ### the cone of a polygon -/
def fanB (c0 : Row) : List Row → Bool
  | a :: b :: t => decide (0 < det ⟨c0, a, b⟩) && fanB c0 (b :: t)
  | _ => true
def edgeB (m : Mat) (v a b : Row) : Bool := decide (cross (cross a b) (image m v) = ⟨0, 0, 0⟩) && decide (dot (cross a b) (image m v) < 0)
def edgesB (m : Mat) (c0 : Row) : List (Row × Row) → Bool
  | (a, v) :: (b, u) :: t => edgeB m v a b && edgesB m c0 ((b, u) :: t)
  | [(a, v)] => edgeB m v a c0
  | [] => true
def polyB (m : Mat) (ws : List Row) : List (Row × Row) → Bool
  | (c0, v) :: (a, u) :: (b, t) :: l => (edgeB m v c0 a && edgesB m c0 ((a, u) :: (b, t) :: l)) && (fanB c0 (a :: b :: l.map (·.1)) && (((c0 :: a :: b :: l.map (·.1)).all fun x => (c0 :: a :: b :: l.map (·.1)).all fun y => decide (bil m x y ≤ 0)) && ((v :: u :: t :: l.map (·.2)).all fun x => decide (x ∈ ws))))
  | _ => false
/-! ### by evaluation -/
def sumR : List Row → Row
  | [] => ⟨0, 0, 0⟩
  | r :: l => ⟨r.x + (sumR l).x, r.y + (sumR l).y, r.z + (sumR l).z⟩
def polD (m : Mat) (p : Row) (w c : List (Row × Row)) : Bool := polyB m (w.map (·.1)) c && ((decide (Q m (sumR (w.map (·.2))) < 0) && (decide (bil m p (sumR (w.map (·.2))) < 0) && leB (sumR (w.map (·.2))) 1000)) && ((w.map (·.1)).all fun v => (decide (dot v (image m (sumR (w.map (·.2)))) < 0) && leB v 1000) && decide (0 < Q m v)))
def codeC (c : Nat) (i : Nat) : Bool := (decide (choF i = ⟨drN c 0, drN c 3, drN c 6⟩) && decide (choP i = drN c 9)) && polD ⟨drN c 0, drN c 3, drN c 6⟩ (drN c 9) (wC c) (dlN c (cntC c) (14 + 6 * cntC c))
theorem code_all : codeT.zipIdx.all (fun e => codeC e.1 e.2) = true := by decide +kernel
theorem code_len : codeT.length = 459 := by decide +kernel
theorem code_ok (n : Int) : choF n = ⟨drN (codeN n) 0, drN (codeN n) 3, drN (codeN n) 6⟩ ∧ choP n = drN (codeN n) 9 ∧ polD ⟨drN (codeN n) 0, drN (codeN n) 3, drN (codeN n) 6⟩ (drN (codeN n) 9) (wC (codeN n)) (dlN (codeN n) (cntC (codeN n)) (14 + 6 * cntC (codeN n))) = true := by
  have h1 : 0 ≤ n % 459 := Int.emod_nonneg _ (by decide)
  have h2 : n % 459 < 459 := Int.emod_lt_of_pos _ (by decide)
  have hlt : (n % 459).toNat < codeT.length := by rw [code_len]; omega
  have he : codeN n = codeT[(n % 459).toNat] := by
    unfold codeN
    rw [List.getD_eq_getElem?_getD, List.getElem?_eq_getElem hlt]
    rfl
  have hm : (codeT[(n % 459).toNat], (n % 459).toNat) ∈ codeT.zipIdx := by
    refine List.mem_of_getElem? (i := (n % 459).toNat) ?_
    rw [List.getElem?_zipIdx, List.getElem?_eq_getElem hlt]
    simp
  have h := (List.all_eq_true.1 code_all) _ hm
  rw [← he] at h
  unfold codeC at h
  simp only [Bool.and_eq_true, decide_eq_true_eq] at h
  have e : (((n % 459).toNat : Nat) : Int) = n % 459 := Int.toNat_of_nonneg h1
  rw [e] at h
  obtain ⟨⟨a1, a2⟩, a5⟩ := h
  exact ⟨(choF_mod n).trans a1, (choP_mod n).trans a2, a5⟩
/-! ### walls at any depth -/
end Cz

/-! MJ: rows are led into a room in a few steps, and their words lead back. -/
namespace Cz
open PySem PySem.Spec PyProof.Rows L2 Kx
/-- what is known of a row on its way into a room: its norm, its height, which falls -/
structure OnWay (n : Int) (v u : Row) : Prop where
  q : Q (choF n) u = Q (choF n) v
  neg : Q (choF n) u < 0
  fwd : bil (choF n) (choP n) u < 0
  low : bil (choF n) (choP n) v ≤ bil (choF n) (choP n) u
end Cz

/-! # MN: how far the rows on the way of a word lie: products stay, and a row with bounded product and norm is bounded. Own work. -/
namespace Kx
open PySem PyProof.Rows L2 Cz
theorem sm_root {N : Nat} {z W : Int} (h : z * z ≤ W) (k : Sm N W) : Sm N z := by
  unfold Sm at *
  have h1 : (z * z).natAbs ≤ W.natAbs := by
    have := sqnn z
    omega
  rw [Int.natAbs_mul] at h1
  have := Nat.le_mul_self z.natAbs
  omega
theorem sm_fac {N : Nat} {k z : Int} (hk : k ≠ 0) (h : Sm N (k * z)) : Sm N z := by
  unfold Sm at *
  rw [Int.natAbs_mul] at h
  have h1 : 0 < k.natAbs := by omega
  have := Nat.le_mul_of_pos_left z.natAbs h1
  omega
/-- an item of a row, from the products with a base and the norm -/
theorem item_sm {A : Mat} {p x e : Row} {n a b : Nat} (hA : formOk A = true) (hp : Q A p < 0) (hpn : p.sm n) (he : e.sm 1) (ha : Sm a (bil A p x)) (hb : Sm b (Q A x)) : Sm (12 * n + 2 * a + b + 600) (dot x e) := by
  have hs := items_sm (formOk_items hA)
  have hd := formOk_det hA
  have hy : (image (adj A) e).sm 24 := (sm_image (sm_adj hs) he).mono (by decide)
  generalize hyy : image (adj A) e = y at *
  have hyx : bil A y x = det A * dot x e := by
    rw [bil_symm (formOk_sym hA)]
    show dot x (image A y) = _
    rw [← hyy, adj_im]
    simp only [scR, dot]
    grind
  have q1 : Sm (2 * n + 20) (Q A p) := (sm_dot hpn (sm_image hs hpn)).mono (by omega)
  have q2 : Sm (n + 50) (bil A p y) := (sm_dot hpn (sm_image hs hy)).mono (by omega)
  have q3 : Sm 100 (Q A y) := (sm_dot hy (sm_image hs hy)).mono (by omega)
  have b1 : Sm (4 * n + 221) (bB A p y y) := ((q2.mul q2).sub' (q1.mul q3)).mono (by omega)
  have b2 : Sm (2 * n + 2 * a + b + 21) (bB A p x x) := ((ha.mul ha).sub' (q1.mul hb)).mono (by omega)
  have hc := bB_cs hA hp y x
  have z1 : Sm (6 * n + 2 * a + b + 242) (bB A p y x) := sm_root hc ((b1.mul b2).mono (by omega))
  have e1 : Q A p * det A * dot x e = bil A p y * bil A p x - bB A p y x := by
    unfold bB
    rw [hyx]
    grind
  have z2 : Sm (12 * n + 2 * a + b + 600) (Q A p * det A * dot x e) := by
    rw [e1]
    have := (q2.mul ha).sub' z1
    refine ((q2.mul ha).sub z1).mono ?_
    have : max (n + 50 + a) (6 * n + 2 * a + b + 242) ≤ 6 * n + 2 * a + b + 292 := by omega
    omega
  refine sm_fac (fun z => ?_) z2
  rcases Int.mul_eq_zero.mp z with z | z <;> omega
theorem row_sm {A : Mat} {p x : Row} {n a b : Nat} (hA : formOk A = true) (hp : Q A p < 0) (hpn : p.sm n) (ha : Sm a (bil A p x)) (hb : Sm b (Q A x)) : x.sm (12 * n + 2 * a + b + 600) := by
  have h1 := item_sm (e := ⟨1, 0, 0⟩) hA hp hpn ⟨by decide, by decide, by decide⟩ ha hb
  have h2 := item_sm (e := ⟨0, 1, 0⟩) hA hp hpn ⟨by decide, by decide, by decide⟩ ha hb
  have h3 := item_sm (e := ⟨0, 0, 1⟩) hA hp hpn ⟨by decide, by decide, by decide⟩ ha hb
  simp only [dot, Int.mul_one, Int.mul_zero, Int.add_zero, Int.zero_add] at h1 h2 h3
  exact ⟨h1, h2, h3⟩
end Kx

/-! # MO: the rows on the way back of a fold, and unit rows led over its word. Own work. -/
namespace Cz
open PySem PyProof.Rows L2 Kx
end Cz

/-! CzN: for x in reversed(t), t a tuple of data. -/
namespace Cz
open PySem PySem.Spec PyProof.Rows L2
section
variable {K : PySem.W.Frag} {W : WX} {Γ : List D} {P : Po} {g : TG} {tb : TS}
end
end Cz
namespace Cz
open PySem PySem.Spec PyProof.Rows L2 Kx
/-! a word of reflections is linear -/
def lin (a b c : Int) (u v w : Row) : Row := ⟨a * u.x + b * v.x + c * w.x, a * u.y + b * v.y + c * w.y, a * u.z + b * v.z + c * w.z⟩
end Cz

/-! CzX: dicts of a frame whose keys are rows (whether they are made or written). -/
namespace Cz
open PySem PySem.Spec PyProof.Rows L2
def rK (r : Row) : List L2.Key := [.inl r.x, .inl r.y, .inl r.z]
def rV (r : Row) : List V := [.int r.x, .int r.y, .int r.z]
theorem rK_inj {r s : Row} (h : rK r = rK s) : r = s := by
  cases r
  cases s
  simp only [rK, List.cons.injEq, Sum.inl.injEq, and_true] at h
  simp [h]
structure XE where
  r : Row
  k : Addr
  v : V
def vO : V → Value
  | .ref a => .ref a
  | .bl b => .bool b
  | _ => .none
def okV : V → Bool
  | .ref _ => true
  | .bl _ => true
  | _ => false
theorem vO_rel {v : V} (h : okV v = true) : RelV v (vO v) := by
  cases v <;> first | rfl | cases h
theorem vO_eq {v : V} {u : Value} (h : okV v = true) (r : RelV v u) : u = vO v := by
  cases v with
  | ref a => exact r
  | bl b => exact r
  | _ => cases h
def XE.ent (e : XE) : List L2.Key × Addr × Value := (rK e.r, e.k, vO e.v)
def lookX (es : List XE) (r : Row) : Option XE := es.find? fun e => decide (e.r = r)
def putX (es : List XE) (r : Row) (k : Addr) (v : V) : List XE := if (lookX es r).isSome then es.map (fun e => if e.r = r then ⟨e.r, e.k, v⟩ else e) else es ++ [⟨r, k, v⟩]
def DXo (P : Program) (w : World) (a : Addr) (es : List XE) : HO := .ext fun h => (a == sysModules) = false ∧ es.length ≤ sizeLine ∧
  ∃ o ds ep, h.get? a = some o ∧ o.ExactDict ∧ o.data = .dict ds ep ∧ ds.toList = (es.map XE.ent).map (entryOfKey (tupleKind (mixKind P w))) ∧ ((es.map XE.ent).map (·.1)).Nodup
theorem atKey_ent (r : Row) : ∀ es : List XE, atKey (es.map XE.ent) (rK r) = (lookX es r).map fun e => (e.k, vO e.v)
  | [] => rfl
  | e :: es => by
    have ih := atKey_ent r es
    unfold atKey lookX at *
    rw [List.map_cons, List.find?_cons, List.find?_cons]
    by_cases h : e.r = r
    · have h1 : (XE.ent e).1 = rK r := by rw [← h]; rfl
      rw [decide_eq_true h1, decide_eq_true h]
      rfl
    · have h1 : ¬ (XE.ent e).1 = rK r := fun z => h (rK_inj z)
      rw [decide_eq_false h1, decide_eq_false h]
      exact ih
theorem putX_ent (es : List XE) (r : Row) (k : Addr) (v : V) : storedH (es.map XE.ent) (rK r) k (vO v) = (putX es r k v).map XE.ent := by
  unfold storedH putX
  rw [atKey_ent, Option.isSome_map]
  split
  · rw [List.map_map, List.map_map]
    refine List.map_congr_left fun e _ => ?_
    show putAt (rK r) (vO v) (XE.ent e) = XE.ent (if e.r = r then ⟨e.r, e.k, v⟩ else e)
    unfold putAt
    by_cases h : e.r = r
    · rw [if_pos (show (XE.ent e).1 = rK r by rw [← h]; rfl), if_pos h]
      rfl
    · rw [if_neg (show ¬ (XE.ent e).1 = rK r from fun z => h (rK_inj z)), if_neg h]
  · rw [List.map_append]
    rfl
theorem putX_len (es : List XE) (r : Row) (k : Addr) (v : V) : (putX es r k v).length ≤ es.length + 1 := by
  unfold putX
  split
  · rw [List.length_map]
    exact Nat.le_succ _
  · rw [List.length_append]
    exact Nat.le_refl _
section
variable {X : Cx} {pins : List (Addr × Obj)} {σ : L2.St} {H : Hp} {s : Shared} {a b : Addr} {es : List XE} {r : Row} {A : Around} {E : Value → Shared → Prop}
theorem keyX (I : Inv X pins σ H s) (h : SqT X.K H b (rV r)) : (tupleKind (mixKind X.prog X.w)).is s.heap (rK r) b := by
  obtain ⟨its, rv, ⟨o, h1, h2, n, h3⟩, _⟩ := I.tuple h
  exact ⟨o, its.toArray, n, h1, h2, h3, by simpa using items_are (ks := rK r) rv⟩
def KeysX (K : PySem.W.Frag) (H : Hp) (es : List XE) : Prop := ∀ e ∈ es, SqT K H e.k (rV e.r)
theorem dictX (I : Inv X pins σ H s) (e : H a = some (DXo X.prog X.w a es)) (ks : KeysX X.K H es) : (a == sysModules) = false ∧ es.length ≤ sizeLine ∧ s.heap.DictOfH (tupleKind (mixKind X.prog X.w)) a (es.map XE.ent) := by
  obtain ⟨⟨h0, hl, o, ds, ep, h1, h2, h3, h4, h5⟩, _⟩ := (show ObjOk X.prog X.w H s.heap a (DXo X.prog X.w a es) from I.hok a _ e)
  refine ⟨h0, hl, o, ds, ep, h1, h2, h3, h4, fun x hx => ?_, h5⟩
  obtain ⟨y, hy, rfl⟩ := List.mem_map.mp hx
  exact keyX I (ks y hy)
theorem DXo_ok {P : Program} {w : World} {H' : Hp} {h : Heap} (h0 : (a == sysModules) = false) (hl : es.length ≤ sizeLine) (hd : h.DictOfH (tupleKind (mixKind P w)) a (es.map XE.ent)) : ObjOk P w H' h a (DXo P w a es) := by
  obtain ⟨o, ds, ep, h1, h2, h3, h4, _, h5⟩ := hd
  refine ⟨⟨h0, hl, o, ds, ep, h1, h2, h3, h4, h5⟩, ⟨o, h1⟩, ?_⟩
  rintro g1 g2 ⟨h0, hl, o, ds, ep, h1, h2, h3, h4, h5⟩ st
  exact ⟨h0, hl, o, ds, ep, st o h1, h2, h3, h4, h5⟩
end
/-! ### readings -/
def tXNew (P : Program) (w : World) : TE := fun _ H Q => ∀ p, H p = none → Q (.ref p) (upd H p (DXo P w p []))
/-- d[y] -/
def rXGet (P : Program) (w : World) (K : PySem.W.Frag) : R2 := fun x y H Q => ∃ a b es r e, x = .ref a ∧ y = .ref b ∧ H a = some (DXo P w a es) ∧ KeysX K H es ∧ SqT K H b (rV r) ∧ lookX es r = some e ∧ okV e.v = true ∧ Q e.v H
/-- d[y] = v -/
def rXPut (P : Program) (w : World) (K : PySem.W.Frag) : TSet := fun x y v H Q => ∃ a b es r, x = .ref a ∧ y = .ref b ∧ H a = some (DXo P w a es) ∧ KeysX K H es ∧ SqT K H b (rV r) ∧ okV v = true ∧ es.length < sizeLine ∧ Q (upd H a (DXo P w a (putX es r b v)))
section
variable {X : Cx} {o i : Expr} {pos : Pos} {td ty : TE}
theorem pe_xnew : PE X (.Dict [] [] pos) (tXNew X.prog X.w) := ⟨fun pins s σ H Q I h =>
  wpAny_Dict_empty ⟨.ref s.heap.objs.size, _, I.laid (a := s.heap.objs.size) (o := DXo X.prog X.w s.heap.objs.size []) (t' := s.toks) (fun _ _ q => Heap.get?_push_of_some _ q) (Nat.le_refl _)
    (DXo_ok (es := []) (beq_eq_false_iff_ne.mpr (Ne.symm (Nat.ne_of_lt I.big))) (Nat.zero_le _) (Heap.DictOfH.new s.heap)), rfl, h _ (I.hok.fresh (Nat.le_refl _))⟩⟩
theorem pe_xget (hu : X.A.units + 1 < cLine) (ho : PE X o td) (hi : PE X i ty) (hs : NoSl i) : PE X (.Subscript o i pos) (tOp (rXGet X.prog X.w X.K) td ty) := by
  refine ⟨fun pins s σ H Q I h => ?_⟩
  refine subD_of PySem.F.slot_dict_getitem.lookup hs (thn (ho.run pins s σ H _ I h) fun u s1 ⟨x, H1, I1, rx, q1⟩ => thn (hi.run pins s1 σ H1 _ I1 q1) fun iv s2 ⟨y, H2, I2, ry, a, b, es, r, e, ex, ey, hd, ks, kb, hl, hv, q2⟩ => ?_)
  subst ex ey
  obtain rfl : u = Value.ref a := rx
  obtain rfl : iv = Value.ref b := ry
  obtain ⟨h0, _, dd⟩ := dictX I2 hd ks
  refine ⟨dd.typeIs, ?_⟩
  refine wpAny_getItem_heap (p := (e.k, vO e.v)) (tupleKind_room_in1 hu) (keyX I2 kb) dd (by rw [atKey_ent, hl]; rfl) ?_
  exact ⟨e.v, H2, I2.tok _, vO_rel hv, q2⟩
theorem set_x (hu : X.A.units + 1 < cLine) : PSet X (rXPut X.prog X.w X.K) := fun pins s σ H x y v ov iv u Q I rx ry rv ⟨a, b, es, r, ex, ey, hd, ks, kb, hv, hl, q⟩ => by
  subst ex ey
  obtain rfl : ov = Value.ref a := rx
  obtain rfl : iv = Value.ref b := ry
  obtain rfl : u = vO v := vO_eq hv rv
  obtain ⟨h0, hz, dd⟩ := dictX I hd ks
  refine wpAny_setItem_heap (hsz := by rw [List.length_map]; exact hz) (tupleKind_room_in1 hu) (keyX I kb) dd fun h' dd' hs => ⟨_, ?_, q⟩
  have he : ∃ q, h'.get? a = some q := let ⟨q, _, _, hq, _⟩ := dd'; ⟨q, hq⟩
  rw [putX_ent] at dd'
  exact I.write (x := a) (e := a) (by rw [hd]; exact True.intro) (.inl rfl) (fun b q hb z => (hs.2 b hb).trans z) he (DXo_ok h0 (by have := putX_len es r b v; omega) dd')
end

section
variable {X : Cx} {o i : Expr} {pos : Pos} {td ty : TE}
theorem pe_xnewK (P : Program) (w : World) (hP : X.prog = P := by rfl) (hw : X.w = w := by rfl) : PE X (.Dict [] [] pos) (tXNew P w) := by subst hP; subst hw; exact pe_xnew
theorem pe_xgetK (P : Program) (w : World) (K : PySem.W.Frag) (hu : X.A.units + 64 < cLine) (ho : PE X o td) (hi : PE X i ty) (hs : NoSl i) (hP : X.prog = P := by rfl) (hw : X.w = w := by rfl) (hK : X.K = K := by rfl) : PE X (.Subscript o i pos) (tOp (rXGet P w K) td ty) := by
  subst hP; subst hw; subst hK; exact pe_xget (by omega) ho hi hs
theorem set_xK (P : Program) (w : World) (K : PySem.W.Frag) (hu : X.A.units + 64 < cLine) (hP : X.prog = P := by rfl) (hw : X.w = w := by rfl) (hK : X.K = K := by rfl) : PSet X (rXPut P w K) := by
  subst hP; subst hw; subst hK; exact set_x (by omega)
end
/-! ### a frame with such a dict: a its address, es what it holds; xs: what is known of the values -/
/-- what a value stands for: True, or a list that is only read -/
inductive XV where
  | tt
  | ls (xs : List T)
def ValX (K : PySem.W.Frag) (H : Hp) (ow : Addr → Prop) : V → XV → Prop
  | v, .tt => v = .bl true
  | v, .ls xs => ∃ b vs, v = .ref b ∧ LRd K H ow b vs ∧ Rps K H vs xs
/-- the dict at a holds m: rows and what stands for them, in order -/
inductive EntX (K : PySem.W.Frag) (H : Hp) (ow : Addr → Prop) : List XE → List (Row × XV) → Prop
  | nil : EntX K H ow [] []
  | cons {e : XE} {es : List XE} {m : List (Row × XV)} {x : XV} : SqT K H e.k (rV e.r) → ValX K H ow e.v x → EntX K H ow es m → EntX K H ow (e :: es) ((e.r, x) :: m)
def DictX (P : Program) (w : World) (K : PySem.W.Frag) (H : Hp) (ow : Addr → Prop) (a : Addr) (m : List (Row × XV)) : Prop := ∃ es, H a = some (DXo P w a es) ∧ EntX K H ow es m
def getM (m : List (Row × XV)) (r : Row) : Option XV := (m.find? fun p => decide (p.1 = r)).map (·.2)
def putM (m : List (Row × XV)) (r : Row) (x : XV) : List (Row × XV) := if (getM m r).isSome then m.map (fun p => if p.1 = r then (p.1, x) else p) else m ++ [(r, x)]
section
variable {P : Program} {w : World} {K : PySem.W.Frag} {H H' : Hp} {ow ow' : Addr → Prop} {a b : Addr} {es : List XE} {m : List (Row × XV)} {r : Row} {x : XV}
theorem ValX.mono (m : Imm H H') (kl : ∀ b vs, SqL K H b vs → ¬ ow b → SqL K H' b vs) (ho : ∀ b vs, SqL K H b vs → ow' b → ow b ∨ H b = none) {v : V} (h : ValX K H ow v x) : ValX K H' ow' v x := by
  cases x with
  | tt => exact h
  | ls xs => obtain ⟨b, vs, e, l, r⟩ := h; exact ⟨b, vs, e, l.mono kl ho, r.mono m⟩
theorem EntX.mono (m : Imm H H') (kl : ∀ b vs, SqL K H b vs → ¬ ow b → SqL K H' b vs) (ho : ∀ b vs, SqL K H b vs → ow' b → ow b ∨ H b = none) {mm : List (Row × XV)} (h : EntX K H ow es mm) : EntX K H' ow' es mm := by
  induction h with
  | nil => exact .nil
  | cons k v _ ih => exact .cons (m.sqT k) (v.mono m kl ho) ih
theorem EntX.keys (h : EntX K H ow es m) : KeysX K H es := by
  induction h with
  | nil => intro e he; cases he
  | cons k v _ ih =>
    intro e he
    rcases List.mem_cons.1 he with rfl | he
    · exact k
    · exact ih e he
theorem EntX.len (h : EntX K H ow es m) : es.length = m.length := by
  induction h with
  | nil => rfl
  | cons _ _ _ ih => rw [List.length_cons, List.length_cons, ih]
theorem EntX.look (h : EntX K H ow es m) (r : Row) : match lookX es r with
    | some e => ∃ x, getM m r = some x ∧ ValX K H ow e.v x
    | none => getM m r = none := by
  induction h with
  | nil => exact rfl
  | @cons e es m x k v _ ih =>
    unfold lookX getM at *
    rw [List.find?_cons, List.find?_cons]
    by_cases z : e.r = r
    · rw [decide_eq_true z]
      exact ⟨x, rfl, v⟩
    · rw [decide_eq_false z]
      exact ih
theorem EntX.some (h : EntX K H ow es m) (g : getM m r = Option.some x) : ∃ e, lookX es r = Option.some e ∧ ValX K H ow e.v x := by
  have := h.look r
  cases z : lookX es r with
  | none =>
    rw [z] at this
    rw [g] at this
    cases this
  | some e =>
    rw [z] at this
    obtain ⟨x', h1, h2⟩ := this
    rw [g] at h1
    cases h1
    exact ⟨e, rfl, h2⟩
theorem EntX.isSome (h : EntX K H ow es m) (r : Row) : (lookX es r).isSome = (getM m r).isSome := by
  have := h.look r
  cases z : lookX es r with
  | none =>
    rw [z] at this
    rw [this]
    rfl
  | some e =>
    rw [z] at this
    obtain ⟨x', h1, _⟩ := this
    rw [h1]
    rfl
theorem EntX.rep (h : EntX K H ow es m) {v : V} (hv : ValX K H ow v x) : EntX K H ow (es.map fun e => if e.r = r then ⟨e.r, e.k, v⟩ else e) (m.map fun p => if p.1 = r then (p.1, x) else p) := by
  induction h with
  | nil => exact .nil
  | @cons e es m y k' v' t ih =>
    rw [List.map_cons, List.map_cons]
    by_cases z : e.r = r
    · rw [if_pos z, if_pos z]
      exact .cons (e := ⟨e.r, e.k, v⟩) k' hv ih
    · rw [if_neg z, if_neg z]
      exact .cons k' v' ih
theorem EntX.snoc (h : EntX K H ow es m) {k : Addr} {v : V} (hk : SqT K H k (rV r)) (hv : ValX K H ow v x) : EntX K H ow (es ++ [⟨r, k, v⟩]) (m ++ [(r, x)]) := by
  induction h with
  | nil => exact .cons (e := ⟨r, k, v⟩) hk hv .nil
  | cons a b _ ih => exact .cons a b ih
theorem EntX.put (h : EntX K H ow es m) {k : Addr} {v : V} (hk : SqT K H k (rV r)) (hv : ValX K H ow v x) : EntX K H ow (putX es r k v) (putM m r x) := by
  unfold putX putM
  rw [h.isSome r]
  split
  · exact h.rep hv
  · exact h.snoc hk hv
end
end Cz

/-! LS: texts. Rules of HandS with the written part named, walks over the signs of a text, errors without a context (L2N), a suite that raises. -/
namespace L2
open PySem PySem.Spec PyProof.Rows
section
variable {X : Cx} {o e : Expr} {to te : TE}
end
end L2
namespace Cz
open PySem PySem.Spec PyProof.Rows L2 SX
section
variable {K : PySem.W.Frag} {Γ : List D} {W : WX} {P : Po} {ta tb : TE}
/-! methods of texts -/
/-! operators, parts, numbers -/
/-! walks -/
variable {g : TG} {tbd : TS}
/-! a field of what a call gives, the call raising -/
end
end Cz

namespace Cz
open PySem PySem.Spec PyProof.Rows L2
section
variable {P : Program} {w : World} {K : PySem.W.Frag} {mg : Str → Option Value} {base : Heap}
end
end Cz
namespace L2
open PySem PySem.Spec PyProof.Rows
section
variable {X : Cx} {C : Addr} {bmB : List Value} {B newId initId : String}
end
end L2

/-! LT: the text of a form. -/
namespace Kx
open PySem PyProof.Rows L2 Cz SX
/-! ### the text of a number -/
/-! ### the texts that are cut and asked -/
/-! ### cut at the spaces, and joined -/
/-! ### the text of a form -/
/-! ### what the program reads -/
/-! ### one end of the line -/
/-! ### what the law reads -/
end Kx
namespace Kx
open PySem PyProof.Rows L2 Cz SX
end Kx

/-! LU: rules for texts as lists of signs' codes. -/
namespace Cz
open PySem PySem.Spec PyProof.Rows L2 SX Kx
section
variable {K : PySem.W.Frag} {Γ : List D} {W : WX} {P : Po} {ta tb te : TE}
/-! s.index(c), c there -/
end
end Cz

/-! CzY: statements of a frame with a dict whose keys are rows. -/
namespace Cz
open PySem PySem.Spec PyProof.Rows L2 Kx
section
variable {P : Program} {w : World} {K : PySem.W.Frag} {H0 H H' : Hp} {σ σ' : L2.St} {Γ Γ' : List D} {A A' : Nat → Addr} {a : Addr} {mt : Bool} {m : List (Row × XV)} {es es' : List XE}
theorem imm_ext {φ ψ : Heap → Prop} (h : H a = some (.ext φ)) : Imm H (upd H a (.ext ψ)) := ⟨fun b vs q => by
    rcases q with q | ⟨o, q⟩
    · have ne : b ≠ a := fun z => by rw [z, h] at q; cases q
      exact .inl (by rw [upd_ne ne]; exact q)
    · have ne : b ≠ a := fun z => by rw [z, h] at q; cases q
      exact .inr ⟨o, by rw [upd_ne ne]; exact q⟩, fun b C dx fs q => by
    have ne : b ≠ a := fun z => by rw [z, h] at q; cases q
    rw [upd_ne ne]; exact q⟩
theorem sqL_ext {φ ψ : Heap → Prop} (h : H a = some (.ext φ)) {b : Addr} {vs : List V} (q : SqL K H b vs) : SqL K (upd H a (.ext ψ)) b vs := by
  rcases q with (q | ⟨o, q⟩) | q
  · have ne : b ≠ a := fun z => by rw [z, h] at q; cases q
    exact .inl (.inl (by rw [upd_ne ne]; exact q))
  · have ne : b ≠ a := fun z => by rw [z, h] at q; cases q
    exact .inl (.inr ⟨o, by rw [upd_ne ne]; exact q⟩)
  · exact .inr q
theorem EnvD.updX {φ ψ : Heap → Prop} (E : EnvD K H0 H σ Γ A) (h : H a = some (.ext φ)) (h0 : H0 a = none) : EnvD K H0 (upd H a (.ext ψ)) σ Γ A :=
  ⟨fun b o q => by rw [upd_ne (ne_of_none q h0)]; exact E.same b o q, E.len, fun i d hi => (E.sl i d hi).mono (imm_ext h) (fun b vs q _ => sqL_ext h q) (fun _ _ _ z => .inl z) (fun xs vs _ q => by
    have ne : A i ≠ a := fun z => by rw [z, h] at q; cases q
    rw [upd_ne ne]; exact q), E.ne⟩
structure EnvX (P : Program) (w : World) (K : PySem.W.Frag) (mt : Bool) (H0 H : Hp) (σ : L2.St) (Γ : List D) (A : Nat → Addr) (a : Addr) (m : List (Row × XV)) : Prop where
  env : EnvD K H0 H σ Γ A
  d : DictX P w K H (IsOwn Γ A) a m
  d0 : mt = true → H0 a = none
structure GoX (a : Addr) (Γ : List D) (A : Nat → Addr) (H : Hp) (Γ' : List D) (A' : Nat → Addr) (H' : Hp) : Prop where
  kp : ∀ b o, H b = some o → ¬ IsOwn Γ A b → b ≠ a → H' b = some o
  ow : ∀ b, IsOwn Γ' A' b → IsOwn Γ A b ∨ H b = none
  da : H' a ≠ none
theorem EnvX.ext (E : EnvX P w K mt H0 H σ Γ A a m) : ∃ φ, H a = some (.ext φ) := by
  obtain ⟨es, h, _⟩ := E.d
  exact ⟨_, h⟩
theorem EnvX.notOwn (E : EnvX P w K mt H0 H σ Γ A a m) : ¬ IsOwn Γ A a := fun z => by
  obtain ⟨_, vs, hv⟩ := E.env.own_lst z
  obtain ⟨φ, h⟩ := E.ext
  rw [h] at hv
  cases hv
theorem EnvX.go (E : EnvX P w K mt H0 H σ Γ A a m) (e : EnvD K H0 H' σ' Γ' A') (g : Go Γ A H Γ' A' H') : EnvX P w K mt H0 H' σ' Γ' A' a m := by
  obtain ⟨es, h, t⟩ := E.d
  exact ⟨e, ⟨es, g.kp _ _ h E.notOwn, t.mono (g.imm E.env) (fun b vs s n => g.sqL s (fun z => absurd z n)) (fun b vs _ z => g.ow b z)⟩, E.d0⟩
theorem EnvX.same (E : EnvX P w K mt H0 H σ Γ A a m) (s : Same H H') : EnvX P w K mt H0 H' σ Γ A a m := E.go (E.env.mono s) (Go.of_same s)
theorem EnvX.gox (E : EnvX P w K mt H0 H σ Γ A a m) (g : Go Γ A H Γ' A' H') : GoX a Γ A H Γ' A' H' := ⟨fun b o h n _ => g.kp b o h n, g.ow, fun z => by
  obtain ⟨φ, h⟩ := E.ext
  rw [g.kp _ _ h E.notOwn] at z
  cases z⟩
theorem GoX.trans {Γ1 Γ2 : List D} {A1 A2 : Nat → Addr} {H1 H2 : Hp} (x : GoX a Γ A H Γ1 A1 H1) (y : GoX a Γ1 A1 H1 Γ2 A2 H2) : GoX a Γ A H Γ2 A2 H2 := by
  refine ⟨fun c o e n nc => y.kp c o (x.kp c o e n nc) (fun z => ?_) nc, fun c z => ?_, y.da⟩
  · rcases x.ow c z with q | q
    · exact n q
    · rw [e] at q; cases q
  · rcases y.ow c z with q | q
    · exact x.ow c q
    · by_cases n : IsOwn Γ A c
      · exact .inl n
      · cases e : H c with
        | none => exact .inr rfl
        | some o =>
          have nc : c ≠ a := fun z => x.da (z ▸ q)
          rw [x.kp c o e n nc] at q
          cases q
theorem GoX.imm (E : EnvX P w K mt H0 H σ Γ A a m) (g : GoX a Γ A H Γ' A' H') : Imm H H' := by
  obtain ⟨φ, hφ⟩ := E.ext
  have f : ∀ b o, H b = some o → (∀ xs, o ≠ .lst xs) → (∀ φ, o ≠ .ext φ) → H' b = some o := fun b o e n n2 => g.kp b o e (fun z => by
    obtain ⟨_, ws, w⟩ := E.env.own_lst z
    rw [e] at w
    exact n ws (Option.some.inj w)) (fun z => by
    rw [z, hφ] at e
    exact n2 φ (Option.some.inj e).symm)
  exact ⟨fun b vs h => by
    rcases h with h | ⟨o, h⟩
    · exact .inl (f _ _ h (fun _ z => nomatch z) fun _ z => nomatch z)
    · exact .inr ⟨o, f _ _ h (fun _ z => nomatch z) fun _ z => nomatch z⟩, fun b C dx fs h => f _ _ h (fun _ z => nomatch z) fun _ z => nomatch z⟩
theorem GoX.sqL (E : EnvX P w K mt H0 H σ Γ A a m) (g : GoX a Γ A H Γ' A' H') {b : Addr} {vs : List V} (h : SqL K H b vs) (n : IsOwn Γ A b → ∀ H', SqL K H' b vs) : SqL K H' b vs := by
  obtain ⟨φ, hφ⟩ := E.ext
  by_cases z : IsOwn Γ A b
  · exact n z H'
  · rcases h with (h | ⟨o, h⟩) | h
    · exact .inl (.inl (g.kp _ _ h z fun e => by rw [e, hφ] at h; cases h))
    · exact .inl (.inr ⟨o, g.kp _ _ h z fun e => by rw [e, hφ] at h; cases h⟩)
    · exact .inr h
end
structure PoX where
  nx : List D → List (Row × XV) → Prop
  rt : D → Prop
  bk : List D → List (Row × XV) → Prop := fun _ _ => False
  ct : List D → List (Row × XV) → Prop := fun _ _ => False
structure MeetX (P : Program) (w : World) (K : PySem.W.Frag) (mt : Bool) (H0 : Hp) (Γ : List D) (A : Nat → Addr) (H : Hp) (a : Addr) (Pz : PoX) (E : Ends) : Prop where
  nx : ∀ Γ' A' σ H' m', Pz.nx Γ' m' → EnvX P w K mt H0 H' σ Γ' A' a m' → GoX a Γ A H Γ' A' H' → E.nx σ H'
  rt : ∀ r v H', Pz.rt r → Res K H0 H' v r → Same H0 H' → E.rt v H'
  bk : ∀ Γ' A' σ H' m', Pz.bk Γ' m' → EnvX P w K mt H0 H' σ Γ' A' a m' → GoX a Γ A H Γ' A' H' → E.bk σ H'
  ct : ∀ Γ' A' σ H' m', Pz.ct Γ' m' → EnvX P w K mt H0 H' σ Γ' A' a m' → GoX a Γ A H Γ' A' H' → E.ct σ H'
def SvX (P : Program) (w : World) (K : PySem.W.Frag) (mt : Bool) (t : TS) (Γ : List D) (a : Addr) (m : List (Row × XV)) (Pz : PoX) : Prop :=
  ∀ (H0 : Hp) (A : Nat → Addr) (σ : L2.St) (H : Hp) (E : Ends), EnvX P w K mt H0 H σ Γ A a m → MeetX P w K mt H0 Γ A H a Pz E → t E σ H
def EvX (P : Program) (w : World) (K : PySem.W.Frag) (t : TE) (Γ : List D) (a : Addr) (m : List (Row × XV)) (x : T) : Prop :=
  ∀ (mt : Bool) (H0 : Hp) (A : Nat → Addr) (σ : L2.St) (H : Hp) (Q : VK), EnvX P w K mt H0 H σ Γ A a m → (∀ v H', Same H H' → Rp K H' v x → Q v H') → t σ H Q
def EvXL (P : Program) (w : World) (K : PySem.W.Frag) (t : TE) (Γ : List D) (a : Addr) (m : List (Row × XV)) (xs : List T) : Prop :=
  ∀ (mt : Bool) (H0 : Hp) (A : Nat → Addr) (σ : L2.St) (H : Hp) (Q : VK), EnvX P w K mt H0 H σ Γ A a m → (∀ b vs H', Same H H' → LRd K H' (IsOwn Γ A) b vs → Rps K H' vs xs → Q (.ref b) H') → t σ H Q
def EvXB (P : Program) (w : World) (K : PySem.W.Frag) (t : TT) (Γ : List D) (a : Addr) (m : List (Row × XV)) (b : Bool) : Prop :=
  ∀ (mt : Bool) (H0 : Hp) (A : Nat → Addr) (σ : L2.St) (H : Hp) (Q : Bool → Hp → Prop), EnvX P w K mt H0 H σ Γ A a m → (∀ H', Same H H' → Q b H') → t σ H Q
section
variable {P : Program} {w : World} {K : PySem.W.Frag} {Γ : List D} {a : Addr} {m : List (Row × XV)} {mt : Bool} {Pz : PoX} {W : WX} {t u : TS} {te ti td ta tb : TE} {x y : T} {xs : List T}
theorem MeetX.after {H0 H H1 : Hp} {A A1 : Nat → Addr} {Γ1 : List D} {E : Ends} (M : MeetX P w K mt H0 Γ A H a Pz E) (s : GoX a Γ A H Γ1 A1 H1) : MeetX P w K mt H0 Γ1 A1 H1 a Pz E :=
  ⟨fun G B σ H' m' p e g => M.nx G B σ H' m' p e (s.trans g), M.rt, fun G B σ H' m' p e g => M.bk G B σ H' m' p e (s.trans g), fun G B σ H' m' p e g => M.ct G B σ H' m' p e (s.trans g)⟩
/-- a statement that leaves the dict alone -/
theorem svx_sv (h : Sv K W0 t Γ { nx := fun G => Pz.nx G m, rt := Pz.rt, bk := fun G => Pz.bk G m, ct := fun G => Pz.ct G m }) : SvX P w K mt t Γ a m Pz := fun H0 A σ H E hE M =>
  h H0 A σ H E hE.env ⟨fun G B σ' H' p e g => M.nx G B σ' H' m p (hE.go e g) (hE.gox g), M.rt, fun G B σ' H' p e g => M.bk G B σ' H' m p (hE.go e g) (hE.gox g), fun G B σ' H' p e g => M.ct G B σ' H' m p (hE.go e g) (hE.gox g), fun _ _ _ _ _ z => z.elim⟩
theorem svx_seq (mid : List D → List (Row × XV) → Prop) (h : SvX P w K mt t Γ a m { Pz with nx := mid }) (k : ∀ G m', mid G m' → SvX P w K mt u G a m' Pz) : SvX P w K mt (tSeq t u) Γ a m Pz := fun H0 A σ H E hE M =>
  h H0 A σ H { E with nx := u E } hE ⟨fun G B σ' H' m' p e g => k G m' p H0 B σ' H' E e (M.after g), M.rt, M.bk, M.ct⟩
theorem svx_then (G : List D) (m' : List (Row × XV)) (h : SvX P w K mt t Γ a m { Pz with nx := fun G' m2 => G' = G ∧ m2 = m' }) (k : SvX P w K mt u G a m' Pz) : SvX P w K mt (tSeq t u) Γ a m Pz := svx_seq _ h fun _ _ ⟨e1, e2⟩ => by subst e1; subst e2; exact k
theorem evx_ev (h : Ev K te Γ x) : EvX P w K te Γ a m x := fun mt H0 A σ H Q E q => h H0 A σ H Q E.env q
theorem evxb_ev {tt : TT} {b : Bool} (h : EvB K tt Γ b) : EvXB P w K tt Γ a m b := fun mt H0 A σ H Q E q => h H0 A σ H Q E.env q
theorem svx_if {c : TT} {b : Bool} (h : EvXB P w K c Γ a m b) (k1 : b = true → SvX P w K mt t Γ a m Pz) (k2 : b = false → SvX P w K mt u Γ a m Pz) : SvX P w K mt (tIfS c t u) Γ a m Pz := fun H0 A σ H E hE M =>
  h mt H0 A σ H _ hE fun H1 s => by
    have M1 := M.after (hE.gox (Go.of_same s))
    cases b with
    | true => exact iteT (k1 rfl H0 A σ H1 E (hE.same s) M1)
    | false => exact iteF (k2 rfl H0 A σ H1 E (hE.same s) M1)
theorem rp_rV {H : Hp} {v : V} {r : Row} (h : Rp K H v (row r)) : ∃ b, v = .ref b ∧ SqT K H b (rV r) := by
  cases h with
  | tup sq rs =>
    have ev := Rps.ints_of (ns := [r.x, r.y, r.z]) rs
    subst ev
    exact ⟨_, rfl, sq⟩
/-- d[r]: a list -/
theorem evx_get {q : Nat} {r : Row} (hq : Γ[q]? = some (.rf a)) (hi : Ev K ti Γ (row r)) (g : getM m r = some (.ls xs)) : EvXL P w K (tOp (rXGet P w K) (tVar q) ti) Γ a m xs := fun mt H0 A σ H Q E k =>
  ⟨_, E.env.rv hq, hi H0 A σ H _ E.env fun v H1 s r1 => by
    obtain ⟨es, hd, t⟩ := (E.same s).d
    obtain ⟨kb, rfl, sq⟩ := rp_rV r1
    obtain ⟨e, he, hv⟩ := t.some g
    obtain ⟨b, vs, e1, l, rp⟩ := hv
    refine ⟨a, _, es, r, e, rfl, rfl, hd, t.keys, sq, he, by rw [e1]; rfl, ?_⟩
    rw [e1]
    exact k b vs H1 s l rp⟩
theorem evx_len (h : EvXL P w K te Γ a m xs) : EvX P w K (tCB (fun xs H Q => ∃ p ys, xs = [.ref p] ∧ (SqL K H p ys ∨ SqT K H p ys) ∧ Q (.int ys.length) H) (tCons te tNil)) Γ a m (.int xs.length) := fun mt H0 A σ H Q E k =>
  h mt H0 A σ H _ E fun b vs H1 s l r => ⟨b, vs, rfl, .inl l.1, k _ H1 s (by rw [r.length]; exact .int _)⟩
theorem evx_ixL {i : Int} (h : EvXL P w K td Γ a m xs) (hi : Ev K ti Γ (.int i)) (hx : atI xs i = some y) : EvX P w K (tOp (rIxL K) td ti) Γ a m y := fun mt H0 A σ H Q E k =>
  h mt H0 A σ H _ E fun b vs H1 s l r => hi H0 A σ H1 _ (E.same s).env fun v H2 s2 r2 => by
    cases r2
    have r' := r.mono (Imm.of_same s2)
    obtain ⟨v, hv, rv⟩ := r'.atI hx
    exact ⟨b, vs, i, v, rfl, rfl, s2.seq l.1, hv, k v H2 (s.trans s2) rv⟩
theorem evx_neI {i j : Int} (ha : EvX P w K ta Γ a m (.int i)) (hb : Ev K tb Γ (.int j)) : EvX P w K (tOp rNe ta tb) Γ a m (.bl (!decide (i = j))) := fun mt H0 A σ H Q E k =>
  ha mt H0 A σ H _ E fun v H1 s1 r1 => by
    have hl : Ev K (tC (.int i)) Γ (.int i) := ev_int
    cases r1
    have := ev_neI (K := K) (Γ := Γ) hl hb H0 A σ H1 (fun v H' => Q v H') (E.same s1).env (fun v H' s r => k v H' (s1.trans s) r)
    exact this
theorem evxb_test {b : Bool} (h : EvX P w K te Γ a m (.bl b)) : EvXB P w K (tTest te) Γ a m b := fun mt H0 A σ H Q E k =>
  h mt H0 A σ H _ E fun v H1 s r => by
    cases r
    exact ⟨b, rfl, k H1 s⟩
/-- a, b = d[r] -/
theorem svx_asgL {n : Nat} {g : TGs} {G : List D} (h : EvXL P w K te Γ a m xs) (e : xs.length = n) (hg : Gds K g Γ xs G) (hn : Pz.nx G m) : SvX P w K mt (tAsg te (gLst K n g)) Γ a m Pz := fun H0 A σ H E hE M =>
  h mt H0 A σ H _ hE fun b vs H1 s l r => by
    have E1 := hE.same s
    refine ⟨b, vs, rfl, l.1, by rw [r.length]; exact e, ?_⟩
    exact hg H0 A σ H1 vs _ E1.env r fun σ' e' g' => M.nx G A σ' H1 m hn (E1.go e' g') ((hE.gox (Go.of_same s)).trans (E1.gox g'))
/-- d[r] = a new list -/
theorem svx_putF {q : Nat} {r : Row} (hmt : mt = true) (hq : Γ[q]? = some (.rf a)) (h : EvF K te Γ xs) (hi : Ev K ti Γ (row r)) (hl : m.length < 1000000) (n : Pz.nx Γ (putM m r (.ls xs))) : SvX P w K mt (tAsg te (gSub (tVar q) ti (rXPut P w K))) Γ a m Pz := fun H0 A σ H E hE M =>
  h H0 A σ H _ hE.env fun p vs H1 hp s h1 rr => by
    have E1 := hE.same s
    refine ⟨_, E1.env.rv hq, hi H0 A σ H1 _ E1.env fun v H2 s2 r2 => ?_⟩
    have E2 := E1.same s2
    obtain ⟨es, hd, t⟩ := E2.d
    obtain ⟨kb, rfl, sq⟩ := rp_rV r2
    have hv : ValX K H2 (IsOwn Γ A) (.ref p) (.ls xs) := ⟨p, vs, rfl, ⟨.of (s2 _ _ h1), fun z => by
      obtain ⟨_, ws, hw⟩ := hE.env.own_lst z
      rw [hp] at hw
      cases hw⟩, rr.mono (Imm.of_same s2)⟩
    have t2 := t.put (r := r) (k := kb) sq hv
    have a0 := hE.d0 hmt
    refine ⟨a, kb, es, r, rfl, rfl, hd, t.keys, sq, rfl, by rw [t.len, sizeLine_eq]; omega, ?_⟩
    have e3 : EnvD K H0 (upd H2 a (DXo P w a (putX es r kb (.ref p)))) σ Γ A := E2.env.updX hd a0
    have g3 : GoX a Γ A H2 Γ A (upd H2 a (DXo P w a (putX es r kb (.ref p)))) := ⟨fun b o e _ nb => by rw [upd_ne nb]; exact e, fun b z => .inl z, by rw [upd_same]; exact fun z => nomatch z⟩
    refine M.nx Γ A σ _ _ n ⟨e3, ⟨_, upd_same, ?_⟩, hE.d0⟩ (((hE.gox (Go.of_same s)).trans (E1.gox (Go.of_same s2))).trans g3)
    exact t2.mono (imm_ext hd) (fun b vs q _ => sqL_ext hd q) (fun _ _ _ z => .inl z)
/-- {} -/
theorem svx_new {q : Nat} {Po' : Po} (k : ∀ a, SvX P w K true u (Γ.set q (.rf a)) a [] { nx := fun _ _ => False, rt := Po'.rt }) : Sv K W (tSeq (tAsg (tXNew P w) (gName q)) u) Γ Po' := fun H0 A σ H E hE M p hp => by
  have s : Same H (upd H p (DXo P w p [])) := same_upd hp
  have e1 := (hE.mono s).put (k := q) (o := some (.ref p)) (d := .rf p) (fun _ z => nomatch z) rfl
  have p0 : H0 p = none := by
    cases e : H0 p with
    | none => rfl
    | some o =>
      have := hE.same _ _ e
      rw [hp] at this
      cases this
  exact k p H0 A _ _ E ⟨e1, ⟨[], upd_same, .nil⟩, fun _ => p0⟩ ⟨fun _ _ _ _ _ z => z.elim, M.rt, fun _ _ _ _ _ z => z.elim, fun _ _ _ _ _ z => z.elim⟩
theorem svx_forV {k : Nat} {g : TG} {tb : TS} (I : Nat → List D → List (Row × XV) → Prop) (hk : Γ[k]? = some (.l xs)) (h0 : I 0 Γ m)
    (hs : ∀ i x G m', xs[i]? = some x → I i G m' → ∃ G', Gd K g G x G' ∧ SvX P w K mt tb G' a m' { Pz with nx := I (i + 1), ct := I (i + 1), bk := Pz.nx }) (hd : ∀ G m', I xs.length G m' → Pz.nx G m') :
    SvX P w K mt (tFor (iList K (tVar k)) g tb) Γ a m Pz := fun H0 A σ H E hE M => by
  have q := hE.env.sl k _ hk
  cases e : σ[k]? with
  | none => rw [e] at q; exact q.elim
  | some o => cases o with
    | none => rw [e] at q; exact q.elim
    | some v =>
      rw [e] at q
      obtain ⟨b, vs, e1, sq, n, r⟩ := q
      subst e1
      refine ⟨_, e, b, rfl, ⟨vs, sq⟩, for_list (K := K) (a := b) (xs := vs) (fun i σ H1 => ∃ G B m', I i G m' ∧ EnvX P w K mt H0 H1 σ G B a m' ∧ GoX a Γ A H G B H1) ⟨Γ, A, m, h0, hE, hE.gox (.of_same (Same.refl H))⟩ (fun i σ H _ ⟨G, B, m', _, _, g⟩ => g.sqL hE sq n) ?_ ?_⟩
      · rintro i y σ1 H1 ii ⟨G, B, m', iG, eG, gG⟩
        obtain ⟨x, hx, rx⟩ := r.at' ii
        obtain ⟨G', hg, hb⟩ := hs i x G m' hx iG
        refine hg H0 B σ1 H1 _ _ eG.env (Rp.mono (gG.imm hE) rx) fun σ2 e2 g2 => ?_
        refine hb H0 B σ2 H1 _ (eG.go e2 g2) ?_
        have M1 := M.after (gG.trans (eG.gox g2))
        exact ⟨fun G2 B2 σ' H' m2 p e g => ⟨G2, B2, m2, p, e, (gG.trans (eG.gox g2)).trans g⟩, M1.rt, M1.nx, fun G2 B2 σ' H' m2 p e g => ⟨G2, B2, m2, p, e, (gG.trans (eG.gox g2)).trans g⟩⟩
      · rintro σ H ⟨G, B, m', iG, eG, gG⟩
        exact M.nx G B σ H m' (by rw [r.length] at iG; exact hd G m' iG) eG gG
theorem svx_while {c : TT} (I : Nat → List D → List (Row × XV) → Prop) (m0 : Nat) (h0 : I m0 Γ m)
    (hs : ∀ k G m', I k G m' → ∃ b, EvXB P w K c G a m' b ∧ (b = true → SvX P w K mt t G a m' { Pz with nx := fun G' m2 => ∃ k', k' < k ∧ I k' G' m2, ct := fun G' m2 => ∃ k', k' < k ∧ I k' G' m2, bk := Pz.nx }) ∧ (b = false → Pz.nx G m')) :
    SvX P w K mt (tWhile c t) Γ a m Pz := fun H0 A σ H E hE M => by
  refine ⟨fun k σ H1 => ∃ G B m', I k G m' ∧ EnvX P w K mt H0 H1 σ G B a m' ∧ GoX a Γ A H G B H1, ⟨m0, Γ, A, m, h0, hE, hE.gox (.of_same (Same.refl H))⟩, ?_⟩
  rintro k σ1 H1 ⟨G, B, m', iG, eG, gG⟩
  obtain ⟨b, hb, ht, hf⟩ := hs k G m' iG
  refine hb mt H0 B σ1 H1 _ eG fun H2 s2 => ?_
  have e2 := eG.same s2
  have g2 : GoX a Γ A H G B H2 := gG.trans (eG.gox (.of_same s2))
  cases b with
  | true =>
    rw [if_pos rfl]
    refine ⟨fun σ' H' => ∃ k', k' < k ∧ ∃ G B m', I k' G m' ∧ EnvX P w K mt H0 H' σ' G B a m' ∧ GoX a Γ A H G B H', fun σ' H' ⟨k', l, r⟩ => ⟨k', l, r⟩, ?_⟩
    have M1 := M.after g2
    exact ht rfl H0 B σ1 H2 _ e2 ⟨fun G2 B2 σ' H' m2 ⟨k', l, p⟩ e g => ⟨k', l, G2, B2, m2, p, e, g2.trans g⟩, M1.rt, M1.nx, fun G2 B2 σ' H' m2 ⟨k', l, p⟩ e g => ⟨k', l, G2, B2, m2, p, e, g2.trans g⟩⟩
  | false =>
    rw [if_neg Bool.false_ne_true]
    exact M.nx G B σ1 H2 m' (hf rfl) e2 g2
/-- i, j = e, f (f reads the dict) -/
theorem svx_par2 {i j : Nat} (h1 : Ev K ta Γ x) (h2 : EvX P w K tb Γ a m y) (n : Pz.nx ((Γ.set i (.t x)).set j (.t y)) m) : SvX P w K mt (tPar i j (tCons ta (tCons tb tNil))) Γ a m Pz := fun H0 A σ H E hE M =>
  h1 H0 A σ H _ hE.env fun v H1 s1 r1 => h2 mt H0 A σ H1 _ (hE.same s1) fun w' H2 s2 r2 => by
    have E2 := (hE.same s1).same s2
    have g : Go Γ A H2 ((Γ.set i (.t x)).set j (.t y)) A H2 := Go.setT.trans Go.setT
    exact ⟨v, w', rfl, M.nx _ _ _ H2 m n (E2.go ((E2.env.setT (k := i) (Rp.mono (Imm.of_same s2) r1)).setT (k := j) r2) g) ((hE.gox (Go.of_same (s1.trans s2))).trans (E2.gox g))⟩
/-- return a if c else b -/
theorem sv_retIf {c : TT} {b : Bool} {Po' : Po} (h : EvB K c Γ b) (k1 : b = true → Sv K W (tRet ta) Γ Po') (k2 : b = false → Sv K W (tRet tb) Γ Po') : Sv K W (tRet (tIf c ta tb)) Γ Po' := fun H0 A σ H E hE M =>
  h H0 A σ H _ hE fun H1 s => by
    cases b with
    | true => exact iteT (k1 rfl H0 A σ H1 E (hE.mono s) (M.later s))
    | false => exact iteF (k2 rfl H0 A σ H1 E (hE.mono s) (M.later s))
end
/-! ### a def that is given a dict -/
def spN (P : Program) (w : World) (K : PySem.W.Frag) (R : List (Row × XV) → List D → D → Prop) : Sp := fun vs H Q _ => ∃ a m ds r ws, R m ds r ∧ vs = .ref a :: ws ∧ Args K H ws ds ∧ (∀ d ∈ ds, plainD d = true) ∧ DictX P w K H (fun _ => False) a m ∧ ∀ v H', Same H H' → Res K H H' v r → Q v H'
theorem env_startR {K : PySem.W.Frag} {H : Hp} {N : List Str} {vs : List V} {ds : List D} (h : ArgsR K H vs ds) : EnvD K H H (L2.start N vs) (startD N ds) (fun _ => 0) ∧ ∀ (i : Nat) (d : D), (startD N ds)[i]? = some d → plainD d = true := by
  have hl := h.length
  have pl : ∀ (i : Nat) (d : D), (startD N ds)[i]? = some d → plainD d = true := fun i d e => by
    unfold startD at e
    by_cases z : i < ds.length
    · rw [List.getElem?_append_left z] at e
      obtain ⟨v, _, hv⟩ := h.at' e
      cases d <;> first | rfl | exact hv.elim
    · rw [List.getElem?_append_right (by omega), List.getElem?_replicate] at e
      split at e
      · cases e; rfl
      · cases e
  refine ⟨⟨Same.refl H, ?_, fun i d e => ?_, fun i j xs ys hi => absurd (pl i _ hi) (fun z => nomatch z)⟩, pl⟩
  · unfold L2.start startD
    simp only [List.length_append, List.length_map, List.length_replicate]
    omega
  · unfold startD at e
    unfold L2.start
    by_cases z : i < ds.length
    · rw [List.getElem?_append_left z] at e
      obtain ⟨v, hv, ra⟩ := h.at' e
      rw [List.getElem?_append_left (by rw [List.length_map]; omega), List.getElem?_map, hv]
      cases d with
      | no => trivial
      | t x => exact ra
      | rf c => exact ra
      | l _ => exact ra.elim
      | own _ => exact ra.elim
      | ll _ => exact ra.elim
    · rw [List.getElem?_append_right (by omega), List.getElem?_replicate] at e
      split at e
      · cases e
        unfold Sl
        split <;> trivial
      · cases e
theorem args_R {K : PySem.W.Frag} {H : Hp} : ∀ {vs : List V} {ds : List D}, Args K H vs ds → (∀ d ∈ ds, plainD d = true) → ArgsR K H vs ds
  | _, _, .nil, _ => .nil
  | _, _, .cons (d := d) h r, p => .cons (by
      cases d with
      | t x => exact h
      | _ => first | exact h.elim | exact absurd (p _ (List.mem_cons_self ..)) (fun z => nomatch z)) (args_R r fun d hd => p d (List.mem_cons_of_mem _ hd))
section
variable {P : Program} {w : World} {K : PySem.W.Frag} {mg : Str → Option Value} {base : Heap}
theorem fn_n {x qual : Str} {st : Stmt} {f : Addr} {fd : FuncData} {N ps : List Str} {k : Nat} {R : List (Row × XV) → List D → D → Prop} (F : Fun K x qual st f fd) (S : FnScope N ps (defScope st)) (len : ∀ m ds r, R m ds r → ds.length + 1 = ps.length)
    (hbody : ∀ (cdv : Value) (A : Around) (outer : List Env) (s : Shared) (H : Hp) (E : XK), Room k (A.deeper (envOfC qual (defScope st) s.heap.objs.size f cdv)) →
      ∃ t, PSs (cxOf CX0 P w K mg base N qual (defScope st) f cdv A outer s H E).nox (defBody st) t ∧ ∀ a m ds r, R m ds r → SvX P w K false t (startD N (.rf a :: ds)) a m { nx := fun _ _ => r = .t .non, rt := fun d => d = r }) : FnOk P w K mg base CX0 (k + 1) f fd ps (spN P w K R) := by
  refine F.ok S (fun vs H Q E ⟨a, m, ds, r, ws, h, ev, ha, _⟩ => by rw [ev, List.length_cons, ha.length]; exact len _ _ _ h) (fun cdv A outer s H vs Q E hr ⟨a, m, ds, r, ws, h, ev, ha, pl, hd, q⟩ => ?_)
  obtain ⟨t, ht, hv⟩ := hbody cdv A outer s H E hr
  subst ev
  obtain ⟨e1, p1⟩ := env_startR (N := N) (vs := .ref a :: ws) (ds := .rf a :: ds) (.cons rfl (args_R ha pl))
  refine ⟨t, ht, hv a m ds r h H _ _ H _ ⟨e1, ?_, fun z => nomatch z⟩ ⟨fun G B σ H' m' e E' _ => ?_, fun r' v H' e hres s' => ?_, fun _ _ _ _ _ z => z.elim, fun _ _ _ _ _ z => z.elim⟩⟩
  · obtain ⟨es, h1, h2⟩ := hd
    refine ⟨es, h1, h2.mono (Imm.of_same (Same.refl H)) (fun _ _ q _ => q) (fun b vs _ z => ?_)⟩
    obtain ⟨j, xs, hj, _⟩ := z
    exact absurd (p1 j _ hj) (fun z => nomatch z)
  · subst e
    exact q .non H' E'.env.same .non
  · subst e
    exact q v H' s' hres
end
section
variable {P : Program} {w : World} {K : PySem.W.Frag} {Γ : List D} {a : Addr} {m : List (Row × XV)} {mt : Bool} {Pz : PoX} {te : TE} {x : T}
/-- n = f(d, e): a new list -/
theorem svx_setN {R : List (Row × XV) → List D → D → Prop} {q j : Nat} {Ex : XK} {xs : List T} (hq : Γ[q]? = some (.rf a)) (he : EvX P w K te Γ a m x) (hR : R m [.t x] (.l xs)) (n : Pz.nx (Γ.set j (.own xs)) m) :
    SvX P w K mt (tAsg (tCall (spN P w K R) [] Ex (tCons (tVar q) (tCons te tNil))) (gName j)) Γ a m Pz := fun H0 A σ H E hE M =>
  ⟨_, hE.env.rv hq, he mt H0 A σ H _ hE fun v H1 s r => by
    have E1 := hE.same s
    obtain ⟨es, h1, h2⟩ := E1.d
    refine ⟨a, m, [.t x], .l xs, [v], hR, rfl, .cons r .nil, fun d hd => by rw [List.mem_singleton] at hd; rw [hd]; rfl, ⟨es, h1, h2.mono (Imm.of_same (Same.refl H1)) (fun _ _ q _ => q) (fun _ _ _ z => z.elim)⟩, fun u H2 s2 res => ?_⟩
    obtain ⟨p, vs, rfl, n0, e2, rp⟩ := res
    have E2 := E1.env.setL (k := j) s2 n0 e2 rp
    exact M.nx _ _ _ H2 m n (E1.go E2 (Go.setL s2 n0)) ((hE.gox (Go.of_same s)).trans (E1.gox (Go.setL s2 n0)))⟩
end

/-! ### walls that meet, the ring that they make -/
def nbrB (m : Mat) (r s : Row) : Bool := !decide (s = r) && !isNon (turnT (turnC m r s))
def nbrM (m : Mat) (ws : List Row) (r : Row) : List Row := ws.filter (nbrB m r)
def nbP (m : Mat) (ws : List Row) (r : Row) : Row × Row := ((nbrM m ws r).getD 0 ⟨0, 0, 0⟩, (nbrM m ws r).getD 1 ⟨0, 0, 0⟩)
/-- the way from wall to wall, as long as there is fuel -/
def wayF (nb : Row → Row × Row) (start : Row) : Nat → Row → Row → List Row → Option (List Row)
  | 0, _, _, _ => none
  | n + 1, b, h, acc => if h = start then some acc else wayF nb start n h (if (nb h).1 = b then (nb h).2 else (nb h).1) (acc ++ [h])
/-- the ring, none if there is none; none: no end in sight -/
def ringM (m : Mat) (ws : List Row) : Option (Option (List Row)) :=
  if ws.length < 3 then some none
  else if ws.all (fun r => decide ((nbrM m ws r).length = 2)) then
    (wayF (nbP m ws) (ws.getD 0 ⟨0, 0, 0⟩) (ws.length + 1) (ws.getD 0 ⟨0, 0, 0⟩) (nbP m ws (ws.getD 0 ⟨0, 0, 0⟩)).1 [ws.getD 0 ⟨0, 0, 0⟩]).map fun way => if way.length = ws.length then some way else none
  else some none
theorem nbr_two {m : Mat} {ws : List Row} {r : Row} (h : (nbrM m ws r).length = 2) : nbrM m ws r = [(nbP m ws r).1, (nbP m ws r).2] := by
  unfold nbP
  match hh : nbrM m ws r, h with
  | [x, y], _ => rfl
theorem nbr_mem {m : Mat} {ws : List Row} {r : Row} (h : (nbrM m ws r).length = 2) : (nbP m ws r).1 ∈ ws ∧ (nbP m ws r).2 ∈ ws := by
  have e := nbr_two h
  have f : ∀ x ∈ nbrM m ws r, x ∈ ws := fun x hx => (List.mem_filter.mp hx).1
  exact ⟨f _ (by rw [e]; exact List.mem_cons_self ..), f _ (by rw [e]; exact List.mem_cons_of_mem _ (List.mem_cons_self ..))⟩
/-- what the dict holds when the first walls are done -/
def nearM (f : Row → List Row) (ws : List Row) : List (Row × XV) := ws.map fun r => (r, .ls ((f r).map row))
theorem near_get (f : Row → List Row) : ∀ {ws : List Row} {r : Row}, r ∈ ws → getM (nearM f ws) r = some (.ls ((f r).map row))
  | w :: ws, r, h => by
    unfold getM nearM
    rw [List.map_cons, List.find?_cons]
    by_cases z : w = r
    · rw [decide_eq_true z, z]
      rfl
    · rw [decide_eq_false z]
      rcases List.mem_cons.1 h with e | h
      · exact absurd e.symm z
      · exact near_get f h
theorem near_none (f : Row → List Row) {ws : List Row} {r : Row} (h : r ∉ ws) : getM (nearM f ws) r = none := by
  unfold getM nearM
  rw [Option.map_eq_none_iff, List.find?_eq_none]
  intro p hp
  obtain ⟨w, hw, rfl⟩ := List.mem_map.mp hp
  simp only [decide_eq_true_eq]
  intro z
  exact h (z ▸ hw)
theorem near_put (f : Row → List Row) {ws : List Row} {r : Row} (h : r ∉ ws) : putM (nearM f ws) r (.ls ((f r).map row)) = nearM f (ws ++ [r]) := by
  unfold putM
  rw [near_none f h, if_neg (by decide)]
  unfold nearM
  rw [List.map_append]
  rfl
end Cz

/-! MK: the rings of the 459 rooms. -/
namespace Cz
open PySem PySem.Spec PyProof.Rows L2 Kx
end Cz

/-! MP: a wall's reflection leads outward roots to outward roots, but its own; so words of walls can be made shorter, and a row is led to one row of the room alone. -/
namespace Cz
open PySem PySem.Spec PyProof.Rows L2 Kx
/-! ### rows on mirrors, by evaluation -/
def reachC (c : Nat) (i : Nat) : Bool := (wC c).all fun w => (decide (bil ⟨drN c 0, drN c 3, drN c 6⟩ w.1 w.2 = 0) && decide (Q ⟨drN c 0, drN c 3, drN c 6⟩ w.2 < 0)) && (decide (bil ⟨drN c 0, drN c 3, drN c 6⟩ (drN c 9) w.2 < 0) && decide (bil ⟨drN c 0, drN c 3, drN c 6⟩ (drN c 9) w.2 * bil ⟨drN c 0, drN c 3, drN c 6⟩ (drN c 9) w.2 - Q ⟨drN c 0, drN c 3, drN c 6⟩ (drN c 9) * Q ⟨drN c 0, drN c 3, drN c 6⟩ w.2 ≤ ((choE i).bd + 1) * -Q ⟨drN c 0, drN c 3, drN c 6⟩ w.2))
theorem reachC_all : codeT.zipIdx.all (fun e => reachC e.1 e.2) = true := by decide +kernel
theorem reachC_ok (n : Int) : ∀ w ∈ roomW n, bil (choF n) w.1 w.2 = 0 ∧ Q (choF n) w.2 < 0 ∧ bil (choF n) (choP n) w.2 < 0 ∧ bil (choF n) (choP n) w.2 * bil (choF n) (choP n) w.2 - Q (choF n) (choP n) * Q (choF n) w.2 ≤ ((choE n).bd + 1) * -Q (choF n) w.2 := fun w hw => by
  obtain ⟨a1, a2, _⟩ := code_ok n
  have h1 : 0 ≤ n % 459 := Int.emod_nonneg _ (by decide)
  have h2 : n % 459 < 459 := Int.emod_lt_of_pos _ (by decide)
  have hlt : (n % 459).toNat < codeT.length := by rw [code_len]; omega
  have he : codeN n = codeT[(n % 459).toNat] := by
    unfold codeN
    rw [List.getD_eq_getElem?_getD, List.getElem?_eq_getElem hlt]
    rfl
  have hm : (codeT[(n % 459).toNat], (n % 459).toNat) ∈ codeT.zipIdx := by
    refine List.mem_of_getElem? (i := (n % 459).toNat) ?_
    rw [List.getElem?_zipIdx, List.getElem?_eq_getElem hlt]
    simp
  have h := (List.all_eq_true.1 reachC_all) _ hm
  rw [← he] at h
  have e : (((n % 459).toNat : Nat) : Int) = n % 459 := Int.toNat_of_nonneg h1
  unfold reachC at h
  rw [e, ← choE_mod', ← a1, ← a2] at h
  have h3 := (List.all_eq_true.1 h) w hw
  simp only [Bool.and_eq_true, decide_eq_true_eq] at h3
  exact ⟨h3.1.1, h3.1.2, h3.2.1, h3.2.2⟩
/-! ### how deep an outward root is that cuts off a row -/
theorem reach_bd {A : Mat} {p q r : Row} (hA : formOk A = true) (hq : Q A q < 0) (hp : Q A p < 0) (hpq : bil A p q < 0) (hr : 0 < Q A r) (h1 : bil A p r ≤ 0) (h2 : 0 ≤ bil A q r) : bil A p r * bil A p r * -Q A q ≤ (bil A p q * bil A p q - Q A p * Q A q) * Q A r := by
  have hc := bB_cs hA hq p r
  have sy := formOk_sym hA
  have e1 : bB A q p p = bil A p q * bil A p q - Q A p * Q A q := by
    rw [bB_self, bil_symm sy q p]
    grind
  have e2 : bB A q r r = bil A q r * bil A q r - Q A q * Q A r := bB_self ..
  have e3 : bB A q p r = bil A p q * bil A q r - Q A q * bil A p r := by
    unfold bB
    rw [bil_symm sy q p]
  rw [e1, e2, e3] at hc
  generalize bil A p q = a at *
  generalize bil A q r = t at *
  generalize bil A p r = y at *
  generalize Q A q = qq at *
  generalize Q A p = qp at *
  generalize Q A r = n at *
  -- (a t - qq y)^2 <= (a a - qp qq) (t t - qq n)
  obtain ⟨d, rfl⟩ : ∃ d, qq = -d := ⟨-qq, by omega⟩
  have hd : 0 < d := by omega
  have k1 : 0 ≤ a * t * (d * y) := by
    have x1 : a * t ≤ 0 := Int.mul_nonpos_of_nonpos_of_nonneg (by omega) h2
    have x2 : d * y ≤ 0 := Int.mul_nonpos_of_nonneg_of_nonpos (by omega) h1
    exact Int.mul_nonneg_of_nonpos_of_nonpos x1 x2
  have k2 : 0 ≤ -qp * d * (t * t) := Int.mul_nonneg (Int.mul_nonneg (by omega) (by omega)) (sqnn t)
  have k3 : d * (d * (y * y)) ≤ d * ((a * a + qp * d) * n) := by grind
  have k4 : d * (y * y) ≤ (a * a + qp * d) * n := Int.le_of_mul_le_mul_left k3 hd
  grind
theorem kind_mem {m : Mat} {r : Row} (hA : formOk m = true) (hr : RootS m r) : Q m r ∈ kindsM m := by
  have hd := formOk_det hA
  obtain ⟨k, hk⟩ := root_kind (by omega : det m < 0) hr
  have hl : 0 < lastM m := lastM_pos (by omega)
  have h0 := hr.pos
  unfold kindsM
  refine List.mem_filter.2 ⟨?_, ?_⟩
  · have hk0 : 0 < k := by
      refine Int.not_le.1 fun z => ?_
      have := Int.mul_nonpos_of_nonneg_of_nonpos (show 0 ≤ Q m r by omega) z
      omega
    have hle : Q m r ≤ 2 * lastM m := by
      have := Int.mul_le_mul_of_nonneg_left (show 1 ≤ k by omega) (show 0 ≤ Q m r by omega)
      omega
    rw [rngI_mem]
    omega
  · rw [hk]
    exact decide_eq_true (Int.mul_emod_right _ _)
/-- an outward root that does not have a row of a wall's mirror behind it is that wall -/
theorem alone (n : Int) {w q r : Row} (h : (w, q) ∈ roomW n) (hr : RootS (choF n) r) (ho : outB (choF n) (choP n) r = true) : r = w ∨ bil (choF n) q r < 0 := by
  obtain ⟨hA, hp, _⟩ := cho_ok n
  have sy := formOk_sym hA
  obtain ⟨_, c2, c3, c4⟩ := reachC_ok n _ h
  simp only at c2 c3 c4
  obtain ⟨⟨b0, b1⟩, _, _, hal⟩ := room_ev n
  by_cases z : bil (choF n) q r < 0
  · exact .inr z
  have o1 : bil (choF n) (choP n) r ≤ 0 := by
    show dot (choP n) (image (choF n) r) ≤ 0
    rw [dot_symm sy]
    exact out_le ho
  have k := reach_bd hA c2 hp c3 hr.pos o1 (by omega)
  have k2 := Int.mul_le_mul_of_nonneg_right c4 (show 0 ≤ Q (choF n) r by have := hr.pos; omega)
  have k3 : bil (choF n) (choP n) r * bil (choF n) (choP n) r ≤ ((choE n).bd + 1) * Q (choF n) r := by
    refine Int.le_of_mul_le_mul_left (a := -Q (choF n) q) ?_ (by omega)
    grind
  have e : dot r (image (choF n) (choP n)) = bil (choF n) (choP n) r := dot_symm sy _ _
  have hm := orP_all hA hp (show 0 ≤ (choE n).bd + 1 by omega) hr ho (kind_mem hA hr) (by rw [e]; exact k3)
  have ha := hal _ hm
  unfold aloneB at ha
  have ha := (List.all_eq_true.1 ha) _ h
  rw [Bool.or_eq_true, decide_eq_true_eq, decide_eq_true_eq] at ha
  rcases ha with ha | ha
  · exact .inl ha
  · refine .inr ?_
    rw [dot_symm sy] at ha
    exact ha
/-! ### the room -/
/-- a row behind all walls -/
def InC (n : Int) (u : Row) : Prop := ∀ w ∈ WT n, bil (choF n) w u ≤ 0
/-! ### words of walls -/
end Cz

/-! MQ: rows that a list of the walls up to their reach does not cut off lie in the room; words that lead to a row are folded back; sizes on the way. -/
namespace Cz
open PySem PySem.Spec PyProof.Rows L2 Kx
theorem reach_ge {m : Mat} {p v : Row} (hv : Q m v < 0) : bil m p v * bil m p v - Q m p * Q m v ≤ reachM m p v * -Q m v := by
  unfold reachM
  generalize bil m p v * bil m p v - Q m p * Q m v = x
  generalize Q m v = q at *
  obtain ⟨d, rfl⟩ : ∃ d, q = -d := ⟨-q, by omega⟩
  have hd : 0 < d := by omega
  have e : x.fdiv (-d) = (-x) / d := by
    rw [← Int.neg_fdiv_neg, Int.neg_neg]
    exact Int.fdiv_eq_ediv_of_nonneg _ (Int.le_of_lt hd)
  rw [e, Int.neg_neg]
  have h1 := Int.emod_add_mul_ediv (-x) d
  have h2 := Int.emod_nonneg (-x) (show d ≠ 0 by omega)
  rw [Int.neg_mul, Int.mul_comm]
  omega
/-- an outward root that does not have a row behind it is not deeper than the row's reach -/
theorem deep {m : Mat} {p u r : Row} (hA : formOk m = true) (hp : Q m p < 0) (hu : Q m u < 0) (hb : bil m p u < 0) (hr : 0 < Q m r) (h1 : bil m p r ≤ 0) (h2 : 0 ≤ bil m u r) : bil m p r * bil m p r ≤ reachM m p u * Q m r := by
  have k := reach_bd hA hu hp hb hr h1 h2
  have k2 := Int.mul_le_mul_of_nonneg_right (reach_ge (p := p) hu) (show 0 ≤ Q m r by omega)
  refine Int.le_of_mul_le_mul_left (a := -Q m u) ?_ (by omega)
  grind
/-! ### sizes -/
end Cz

/-! CzL: list(zip(a, b)) of two lists of one length. -/
namespace Cz
open PySem PySem.Spec PyProof.Rows L2
section
variable {X : Cx} {pins : List (Addr × Obj)} {σ : L2.St} {a b z TI TO i1 i2 S : Addr} {xs ys : List V} {R : Result → Shared → Prop} {A : Around} {res : Value}
end
section
variable {X : Cx} {e e2 : Expr} {ta : TA} {p p2 pos pos2 : Pos}
end
section
variable {K : PySem.W.Frag} {Γ : List D} {ta tb : TE}
end
end Cz

/-! CzM: an __init__ whose names may hold lists and instances of other classes. -/
namespace Cz
open PySem PySem.Spec PyProof.Rows L2
mutual
/-- no instance of C in it -/
def noC (C : Addr) : T → Prop
  | .tup ts => noCs C ts
  | .obj C' _ ts => C' ≠ C ∧ noCs C ts
  | _ => True
def noCs (C : Addr) : List T → Prop
  | [] => True
  | t :: ts => noC C t ∧ noCs C ts
end
def okD (C : Addr) : D → Prop
  | .t x => noC C x
  | .l xs => noCs C xs
  | .own xs => noCs C xs
  | .ll _ => False
  | _ => True
structure IniE (K : PySem.W.Frag) (H0 : Hp) (x dx C : Addr) (Γ : List D) (A : Nat → Addr) (ns : List Str) (ts : List T) (σ : L2.St) (H : Hp) : Prop where
  keep : ∀ b o, H0 b = some o → b ≠ x → H b = some o
  flds : ∃ fs, H x = some (.ins C dx fs) ∧ fs.map (·.1) = ns ∧ Rps K (hid H x) (fs.map (·.2)) ts
  env : EnvD K (hid H0 x) H σ Γ A
  self' : Γ[0]? = some (.rf x)
  cls : ∀ d ∈ Γ, okD C d
section
variable {K : PySem.W.Frag} {H0 H H' : Hp} {x dx C : Addr} {Γ : List D} {A : Nat → Addr} {ns : List Str} {ts : List T} {σ : L2.St} {E : Ends}
end
end Cz
namespace Cz
open PySem PySem.Spec PyProof.Rows L2 Kx
section
variable {K : PySem.W.Frag} {Γ : List D}
end
/-! ### what a closed room holds -/
/-- each row and the next one, the first one behind the last one -/
def nextM {α : Type} (ws : List α) : List (α × α) := ws.zip (ws.drop 1 ++ ws.take 1)
def divR (v : Row) (d : Int) : Row := ⟨v.x / d, v.y / d, v.z / d⟩
def cornM (m : Mat) (p r s : Row) : Row :=
  let x := cross (image m r) (image m s)
  let c := divR x (bareN x)
  if dot c (image m p) < 0 then c else scR c (-1)
end Cz
namespace Cz
open PySem PySem.Spec PyProof.Rows L2 Kx
end Cz

/-! MR: the closed rooms of the 459, by evaluation: ring, angles, corners. -/
namespace Cz
open PySem PySem.Spec PyProof.Rows L2 Kx
def ringO (o : Option (Option (List Row))) : List Row := match o with
  | some (some way) => way
  | _ => []
def intO : T → Int
  | .int i => i
  | _ => -1
/-- the ring of a form's walls, its corners -/
def wayW (m : Mat) (ws : List Row) : List Row := ringO (ringM m ws)
def asW (m : Mat) (way : List Row) : List Int := (nextM way).map fun q => intO (turnT (turnC m q.1 q.2))
def cornW (m : Mat) (p : Row) (way : List Row) : List Row := (nextM way).map fun q => cornM m p q.1 q.2
def add3 (a b c : Row) : Row := ⟨a.x + b.x + c.x, a.y + b.y + c.y, a.z + b.z + c.z⟩
def wayN (n : Int) : List Row := wayW (choF n) (WT n)
def asN (n : Int) : List Int := asW (choF n) (wayN n)
def cornN (n : Int) : List Row := cornW (choF n) (choP n) (wayN n)
structure ClosN (n : Int) : Prop where
  ring : ringM (choF n) (WT n) = some (some (wayN n))
  len : (wayN n).length ≤ 4 ∧ 3 ≤ (wayN n).length
  sub : ∀ w ∈ wayN n, w ∈ WT n
  sup : ∀ w ∈ WT n, w ∈ wayN n
  ang : ∀ q ∈ nextM (wayN n), 0 < bareN (cross (image (choF n) q.1) (image (choF n) q.2))
  an : (nextM (wayN n)).map (fun q => turnT (turnC (choF n) q.1 q.2)) = intsT (asN n)
  pos : ∀ a ∈ asN n, 0 ≤ a ∧ a < 1000
  corn : ∀ c ∈ cornN n, c.le 15 ∧ Q (choF n) c ≤ 0 ∧ bil (choF n) (choP n) c < 0 ∧ InC n c
  three : ∃ a b c t, cornN n = a :: b :: c :: t ∧ Q (choF n) (add3 a b c) < 0
  wle : ∀ w ∈ WT n, w.le 15
  fle : (choF n).a.le 15 ∧ (choF n).b.le 15 ∧ (choF n).c.le 15
  ple : (choP n).le 7
end Cz

/-! MS: words backwards. -/
namespace Cz
open PySem PySem.Spec PyProof.Rows L2 Kx
theorem undo {A : Mat} (sy : A = A.tr) : ∀ (ws : List Row), (∀ w ∈ ws, RootS A w) → ∀ (u : Row) (i : Nat), ((ws.take i).reverse).foldr (led A) (ws.foldr (led A) u) = (ws.drop i).foldr (led A) u
  | [], _, u, i => by simp
  | a :: t, h, u, 0 => by simp
  | a :: t, h, u, i + 1 => by
    rw [List.take_succ_cons, List.reverse_cons, List.foldr_append]
    show ((t.take i).reverse).foldr (led A) (led A a (led A a (t.foldr (led A) u))) = _
    rw [led_led sy (h a List.mem_cons_self)]
    exact undo sy t (fun w hw => h w (List.mem_cons_of_mem _ hw)) u i
/-! ### sizes of reflections in the walls of the rooms -/
end Cz

/-! CzV: a table as a list of three lists that is written to; sums, slices and products of tuples. -/
namespace Cz
open PySem PySem.Spec PyProof.Rows L2
structure Tab where
  p : Addr
  a0 : Addr
  a1 : Addr
  a2 : Addr
  x0 : List Int
  x1 : List Int
  x2 : List Int
structure EnvT (K : PySem.W.Frag) (H0 H : Hp) (σ : L2.St) (Γ : List D) (t : Tab) : Prop where
  env : EnvD K H0 H σ Γ (fun _ => 0)
  pla : ∀ (i : Nat) (d : D), Γ[i]? = some d → plainD d = true
  hp : H t.p = some (.lst [.ref t.a0, .ref t.a1, .ref t.a2])
  h0 : H t.a0 = some (.lst (t.x0.map V.int))
  h1 : H t.a1 = some (.lst (t.x1.map V.int))
  h2 : H t.a2 = some (.lst (t.x2.map V.int))
  n01 : t.a0 ≠ t.a1
  n02 : t.a0 ≠ t.a2
  n12 : t.a1 ≠ t.a2
  m0 : t.a0 ≠ t.p
  m1 : t.a1 ≠ t.p
  m2 : t.a2 ≠ t.p
  fp : H0 t.p = none
  f0 : H0 t.a0 = none
  f1 : H0 t.a1 = none
  f2 : H0 t.a2 = none
section
variable {K : PySem.W.Frag} {H0 H H' : Hp} {σ : L2.St} {Γ : List D} {t : Tab}
end
structure PoT where
  nx : List D → Tab → Prop
  rt : T → Prop
structure MeetT (K : PySem.W.Frag) (H0 H : Hp) (P : PoT) (E : Ends) : Prop where
  nx : ∀ Γ' σ H' t, P.nx Γ' t → EnvT K H0 H' σ Γ' t → E.nx σ H'
  rt : ∀ v x H', P.rt x → Same H0 H' → Rp K H' v x → E.rt v H'
section
variable {K : PySem.W.Frag} {Γ : List D} {t : Tab} {P : PoT} {te ta tb : TE} {x : T} {W : WX}
end
/-! ### tuples -/
section
variable {K : PySem.W.Frag} {Γ : List D} {ta tb : TE}
end
end Cz
namespace Cz
open PySem PySem.Spec PyProof.Rows L2
section
variable {K : PySem.W.Frag} {Γ Γ1 : List D} {ta tb : TE} {x y z : T} {i : Int}
end
end Cz

/-! CzZ: [e for q in range(2)] where e moves the counter, kept as an own list; walks over a tuple in a frame that was given the counter. -/
namespace Cz
open PySem PySem.Spec PyProof.Rows L2
section
variable {K : PySem.W.Frag} {Γ Γ1 Γ2 Γ3 : List D} {te : TE} {W : WX} {P : Po}
end
section
variable {K : PySem.W.Frag} {Γ : List D} {a b : Addr} {ns : List Int} {k l m : Nat} {P : PoP}
end
end Cz
namespace Cz
open PySem PySem.Spec PyProof.Rows L2 Kx
theorem atI_nat {α : Type} {xs : List α} {x : α} {i : Nat} (h : xs[i]? = some x) : L2.atI xs (i : Int) = some x := by
  have hi := (List.getElem?_eq_some_iff.mp h).1
  unfold L2.atI ixN
  rw [if_pos (by omega), if_pos (by omega), Int.toNat_natCast]
  exact h
end Cz
namespace Cz
open PySem PySem.Spec PyProof.Rows L2 Kx
section
variable {K : PySem.W.Frag} {Γ Γ1 Γ2 Γ3 : List D} {ta tb tc : TE} {x y z : T}
end
end Cz
namespace Cz
open PySem PySem.Spec PyProof.Rows L2 Kx
section
variable {K : PySem.W.Frag} {Γ Γ1 Γ2 Γ3 : List D} {ta tb tc : TE} {x y z u : T}
end
end Cz

/-! MT: sorted lists of ints, and the shares of a corner. -/
namespace Cz
open PySem PySem.Spec PyProof.Rows L2 Kx
/-! ### sorted ints -/
section
variable {K : PySem.W.Frag} {Γ : List D} {ta tb : TE}
end
/-! ### the least share -/
section
variable {A : Mat} {p c : Row} {k : Int}
end
end Cz

/-! CzC: list(row); [list(row) for row in rows] with one item set. -/
namespace L2
open PySem PySem.Spec PyProof.Rows
def rListOf (K : PySem.W.Frag) : List V → Hp → VK → Prop := fun xs H Q => ∃ p ys, xs = [.ref p] ∧ (SqL K H p ys ∨ SqT K H p ys) ∧ ∀ l, H l = none → Q (.ref l) (upd H l (.lst ys))
theorem ck_listOf (K : PySem.W.Frag) {X : Cx} (hK : X.K = K := by rfl) : CallR X (.type "list") (rListOf K) := by subst hK; exact call_list_of
end L2
namespace Cz
open PySem PySem.Spec PyProof.Rows L2
section
variable {K : PySem.W.Frag} {Γ : List D} {W : WX} {P : Po} {ta tb te tl : TE} {xs : List T}
theorem ev_mul0 {i j : Int} (ha : Ev K ta Γ (.int i)) (hb : Ev K tb Γ (.int j)) (hC : CMul i j) : Ev K (tOp (rI CMul fun i j => .int (i * j)) ta tb) Γ (.int (i * j)) := ev_rI (f := fun i j => .int (i * j)) (fun _ _ _ => .int _) hC ha hb
theorem evf_listOfT (h : Ev K ta Γ (.tup xs)) : EvF K (tCB (rListOf K) (tCons ta tNil)) Γ xs := fun H0 A σ H Q E q =>
  h H0 A σ H _ E fun v H1 s r => by
    cases r with
    | tup sq r =>
      refine ⟨_, _, rfl, .inr sq, fun l hl => ?_⟩
      exact q l _ _ (s.free hl) (s.trans (same_upd hl)) upd_same (r.mono (Imm.of_same (same_upd hl)))
def EvTb (K : PySem.W.Frag) (t : TE) (Γ : List D) (xs : List (List Int)) : Prop := ∀ (H0 : Hp) (A : Nat → Addr) (σ : L2.St) (H : Hp) (Q : VK), EnvD K H0 H σ Γ A →
  (∀ (l : Addr) (rs : List Addr) (H' : Hp), H l = none → Same H H' → H' l = some (.lst (rs.map V.ref)) → rs.length = xs.length → rs.Nodup → (∀ r ∈ rs, H r = none ∧ r ≠ l) →
    (∀ (j : Nat) (r : Addr) (x : List Int), rs[j]? = some r → xs[j]? = some x → H' r = some (.lst (x.map V.int))) → Q (.ref l) H') → t σ H Q
theorem evtb_lcT {i : Nat} {xs : List (List Int)} (hl : Ev K tl Γ (.tup (xs.map fun x => T.tup (intsT x)))) (z : xs.length < 1000000) (hi : i < Γ.length) : EvTb K (tLc (iTup K tl) (gName i) tYes (tCB (rListOf K) (tCons (tVar i) tNil)) [i]) Γ xs := fun H0 A σ H Q E q =>
  hl H0 A σ H _ E fun v H1 s1 rv => by
    cases rv with
    | tup sq r =>
      rename_i a vs
      have E1 := E.mono s1
      refine ⟨a, rfl, ⟨vs, sq⟩, fun D hD => lc_tup (K := K) (a := a) (xs := vs) (fun j H2 => Same H1 H2 ∧ ∃ rs : List Addr, H2 D = some (.lst (rs.map V.ref)) ∧ rs.length = j ∧ rs.Nodup ∧ (∀ r ∈ rs, H1 r = none ∧ r ≠ D) ∧
          (∀ (n : Nat) (r : Addr) (x : List Int), rs[n]? = some r → xs[n]? = some x → H2 r = some (.lst (x.map V.int))))
        ⟨same_upd hD, [], upd_same, rfl, List.nodup_nil, (fun r h => nomatch h), fun n r x h => nomatch h⟩ (fun j H2 _ p => (Imm.of_same p.1).sqT sq) ?_ ?_⟩
      · rintro j v H2 hj ⟨s, rs, ha, hlen, hnd, hfr, hat⟩
        obtain ⟨y, hy, ry⟩ := r.at' hj
        rw [List.getElem?_map] at hy
        obtain ⟨x, hx, rfl⟩ := Option.map_eq_some_iff.mp hy
        have hil : j < xs.length := (List.getElem?_eq_some_iff.mp hx).1
        refine ⟨by show ((σ.set i none).set i (some v)).set i none = σ.set i none; rw [List.set_set, List.set_set], ?_⟩
        have tY : ∀ (σ2 : L2.St) (H2 : Hp) (Q : Bool → Hp → Prop), Q true H2 → tYes σ2 H2 Q := fun _ _ _ q => q
        refine tY _ _ _ ?_
        refine iteT (evf_listOfT (Γ := (wipeD Γ [i]).set i (.t (.tup (intsT x)))) (xs := intsT x) (ev_var (by show ((Γ.set i .no).set i (.t (.tup (intsT x))))[i]? = _; exact List.getElem?_set_self (by rw [List.length_set]; exact hi))) H0 A _ H2 _ (((E1.mono s).wipe1 i).setT (Rp.mono (Imm.of_same s) ry)) fun p ws H4 np s4 ep rp => ?_)
        have ha4 : H4 D = some (.lst (rs.map V.ref)) := s4 _ _ ha
        have pD : p ≠ D := fun z => by rw [z, ha] at np; cases np
        have hp : H1 p = none := s.free np
        have ews : ws = x.map V.int := Rps.ints_of rp
        refine ⟨rs.map V.ref, ha4, by rw [List.length_map, hlen, sizeLine_eq]; omega, fun b o h => ?_, rs ++ [p], by rw [upd_same, List.map_append]; rfl, by rw [List.length_append, hlen]; rfl, ?_, fun c hc => ?_, fun n c x' hc hx' => ?_⟩
        · rw [upd_ne (ne_of_none h hD)]
          exact s4 _ _ (s _ _ h)
        · rw [List.nodup_append]
          refine ⟨hnd, by simp, fun c hc d hd e => ?_⟩
          rw [List.mem_singleton] at hd
          subst hd
          subst e
          obtain ⟨n, hn⟩ := List.mem_iff_getElem?.mp hc
          have hn2 : n < xs.length := by
            have := (List.getElem?_eq_some_iff.mp hn).1
            omega
          have := hat n c _ hn (List.getElem?_eq_getElem hn2)
          rw [np] at this
          cases this
        · rcases List.mem_append.1 hc with hc | hc
          · exact hfr c hc
          · rw [List.mem_singleton] at hc
            subst hc
            exact ⟨hp, pD⟩
        · have cD : c ≠ D := by
            have := List.mem_of_getElem? hc
            rcases List.mem_append.1 this with h | h
            · exact (hfr c h).2
            · rw [List.mem_singleton] at h
              subst h
              exact pD
          rw [upd_ne cD]
          rcases Nat.lt_or_ge n rs.length with h | h
          · rw [List.getElem?_append_left h] at hc
            exact s4 _ _ (hat n c x' hc hx')
          · rw [List.getElem?_append_right h] at hc
            have e0 : n - rs.length = 0 := by
              rcases Nat.eq_zero_or_pos (n - rs.length) with e | e
              · exact e
              · rw [List.getElem?_eq_none (by rw [List.length_singleton]; omega)] at hc
                cases hc
            rw [e0] at hc
            cases hc
            have en : n = j := by omega
            subst en
            rw [hx] at hx'
            cases hx'
            rw [ep, ews]
      · rintro H2 ⟨s, rs, ha, hlen, hnd, hfr, hat⟩
        rw [r.length, List.length_map] at hlen
        exact q D rs H2 (s1.free hD) (s1.trans s) ha hlen hnd (fun c hc => ⟨s1.free (hfr c hc).1, (hfr c hc).2⟩) hat
theorem lss_of {H : Hp} {ow : Addr → Prop} : ∀ {rs : List Addr} {xs : List (List Int)}, rs.length = xs.length → (∀ (j : Nat) (r : Addr) (x : List Int), rs[j]? = some r → xs[j]? = some x → LRd K H ow r (x.map V.int)) → Lss K H ow (rs.map V.ref) (xs.map intsT)
  | [], [], _, _ => .nil
  | r :: rs, x :: xs, h, k => .cons (k 0 r x rfl rfl) (Rps.ints x) (lss_of (by simpa using h) fun j r' x' h1 h2 => k (j + 1) r' x' h1 h2)
/-- X = [list(row) for ..]; X[e][f] = g -/
theorem sv_tabPut {u : TS} {tt : TE} {L : Nat} {a b v : Int} {i j : Nat} {xs : List (List Int)} (hL : L < Γ.length) (ht : EvTb K tt Γ xs) (he : Ev K te (Γ.set L .no) (.int v)) (ha : Ev K ta (Γ.set L .no) (.int a)) (hb : Ev K tb (Γ.set L .no) (.int b))
    (hi : ixN xs.length a = some i) (hj : ixN (xs.getD i []).length b = some j) (k : Sv K W u (Γ.set L (.ll ((xs.set i ((xs.getD i []).set j v)).map intsT))) P) :
    Sv K W (tSeq (tAsg tt (gName L)) (tSeq (tAsg te (gSub (tOp (rIxL K) (tVar L) ta) tb rSetL)) u)) Γ P := fun H0 A σ H E hE M => by
  refine ht H0 A σ H _ hE fun l rs H4 nl s04 ql hlen hnd hfr hat => ?_
  have i3 : i < xs.length := (ixN_seq hi).2.1
  have i4 : i < rs.length := by omega
  have E4 : EnvD K H0 H4 (σ.set L (some (.ref l))) (Γ.set L .no) A := (hE.mono s04).put (fun _ z => nomatch z) True.intro
  have σL : (σ.set L (some (V.ref l)))[L]? = some (some (.ref l)) := List.getElem?_set_self (by rw [hE.len]; exact hL)
  refine he H0 A _ H4 _ E4 fun w H5 s5 r5 => ?_
  cases r5
  refine ⟨_, σL, ha H0 A _ H5 _ (E4.mono s5) fun w6 H6 s6 r6 => ?_⟩
  cases r6
  have s56 := s5.trans s6
  have hri : rs[i]? = some rs[i] := List.getElem?_eq_getElem i4
  have hxi : xs[i]? = some (xs.getD i []) := by simp [List.getD, List.getElem?_eq_getElem i3]
  have hpx := hat i _ _ hri hxi
  obtain ⟨fp, pl⟩ := hfr _ (List.getElem_mem i4)
  refine ⟨l, _, a, .ref rs[i], rfl, rfl, .of (s56 _ _ ql), ?_, ?_⟩
  · unfold L2.atI
    rw [List.length_map, hlen, hi]
    show (rs.map V.ref)[i]? = _
    rw [List.getElem?_map, hri]
    rfl
  refine hb H0 A _ H6 _ (E4.mono s56) fun w7 H7 s7 r7 => ?_
  cases r7
  have s57 := s56.trans s7
  refine ⟨rs[i], _, b, j, rfl, rfl, s57 _ _ hpx, by rw [List.length_map]; exact hj, ?_⟩
  have ev : ((xs.getD i []).map V.int).set j (.int v) = ((xs.getD i []).set j v).map V.int := by rw [List.map_set]
  rw [ev]
  have sE : Same H (upd H7 rs[i] (.lst (((xs.getD i []).set j v).map V.int))) := fun c o q => by
    rw [upd_ne (ne_of_none q fp)]
    exact s57 _ _ (s04 _ _ q)
  have noown : ∀ (z : List (List T)) c, H c = none → ¬ IsOwn (Γ.set L (.ll z)) A c := fun z c n y => by
    obtain ⟨_, vs, y⟩ := hE.own_lst (IsOwn.of_set (d := D.ll z) (fun _ y => by cases y) y)
    rw [n] at y
    cases y
  have EF := (hE.mono sE).put (k := L) (o := some (.ref l)) (d := .ll ((xs.set i ((xs.getD i []).set j v)).map intsT)) (fun _ z => by cases z) ⟨l, rs.map V.ref, rfl, ⟨.of (by rw [upd_ne pl.symm]; exact s57 _ _ ql), fun z => absurd z (noown _ l nl)⟩, by
    refine lss_of (by rw [List.length_set]; exact hlen) fun n r x h1 h2 => ?_
    have hrm := List.mem_of_getElem? h1
    have fr := (hfr r hrm).1
    refine ⟨.of ?_, fun z => absurd z (noown _ r fr)⟩
    by_cases e : n = i
    · subst e
      rw [hri] at h1
      cases h1
      rw [List.getElem?_set_self i3] at h2
      cases h2
      exact upd_same
    · have ne : r ≠ rs[i] := fun z => e (by
        have hn := (List.getElem?_eq_some_iff.mp h1)
        obtain ⟨hn1, hn2⟩ := hn
        have pw := List.pairwise_iff_getElem.1 hnd
        rcases Nat.lt_or_gt_of_ne e with q | q
        · exact absurd (hn2.trans z) (pw n i hn1 i4 q)
        · exact absurd (hn2.trans z).symm (pw i n i4 hn1 q))
      rw [upd_ne ne]
      rw [List.getElem?_set_ne (fun z => e z.symm)] at h2
      exact s57 _ _ (hat n r x h1 h2)⟩
  exact k H0 A _ _ E EF (M.after ((Go.of_same sE).trans (Go.put fun _ z => by cases z)))
end
end Cz

/-! LO: tables of integers of a finite order have one of the orders 1, 2, 3, 4, 6. -/
namespace Cz
open PySem PySem.Spec PyProof.Rows L2
def addM (m n : Mat) : Mat := ⟨⟨m.a.x + n.a.x, m.a.y + n.a.y, m.a.z + n.a.z⟩, ⟨m.b.x + n.b.x, m.b.y + n.b.y, m.b.z + n.b.z⟩, ⟨m.c.x + n.c.x, m.c.y + n.c.y, m.c.z + n.c.z⟩⟩
def trc (m : Mat) : Int := m.a.x + m.b.y + m.c.z
def zeroM : Mat := ⟨⟨0, 0, 0⟩, ⟨0, 0, 0⟩, ⟨0, 0, 0⟩⟩
def pw (M : Mat) : Nat → Mat
  | 0 => one
  | k + 1 => mul M (pw M k)
theorem addM_comm (m n : Mat) : addM m n = addM n m := by
  apply Mat.ext' <;> apply Row.ext' <;> (simp only [addM]; omega)
theorem addM_assoc (m n k : Mat) : addM (addM m n) k = addM m (addM n k) := by
  apply Mat.ext' <;> apply Row.ext' <;> (simp only [addM]; omega)
theorem addM_cancel {m n k : Mat} (h : addM m k = addM n k) : m = n := by
  have f : ∀ x y z : Int, x + z = y + z → x = y := fun x y z h => by omega
  have ha := congrArg Mat.a h
  have hb := congrArg Mat.b h
  have hc := congrArg Mat.c h
  exact Mat.ext' (Row.ext' (f _ _ _ (congrArg Row.x ha)) (f _ _ _ (congrArg Row.y ha)) (f _ _ _ (congrArg Row.z ha))) (Row.ext' (f _ _ _ (congrArg Row.x hb)) (f _ _ _ (congrArg Row.y hb)) (f _ _ _ (congrArg Row.z hb))) (Row.ext' (f _ _ _ (congrArg Row.x hc)) (f _ _ _ (congrArg Row.y hc)) (f _ _ _ (congrArg Row.z hc)))
theorem mul_addM (m n k : Mat) : mul m (addM n k) = addM (mul m n) (mul m k) := by
  apply Mat.ext' <;> apply Row.ext' <;> (simp only [image, mul, Mat.tr, dot, addM]; grind)
theorem addM_mul (m n k : Mat) : mul (addM m n) k = addM (mul m k) (mul n k) := by
  apply Mat.ext' <;> apply Row.ext' <;> (simp only [image, mul, Mat.tr, dot, addM]; grind)
theorem mul_smul (x : Int) (m n : Mat) : mul m (smul x n) = smul x (mul m n) := by
  apply Mat.ext' <;> apply Row.ext' <;> (simp only [image, mul, Mat.tr, dot, smul]; grind)
theorem smul_mul (x : Int) (m n : Mat) : mul (smul x m) n = smul x (mul m n) := by
  apply Mat.ext' <;> apply Row.ext' <;> (simp only [image, mul, Mat.tr, dot, smul]; grind)
theorem trc_add (m n : Mat) : trc (addM m n) = trc m + trc n := by simp only [trc, addM]; omega
theorem trc_smul (x : Int) (m : Mat) : trc (smul x m) = x * trc m := by simp only [trc, smul]; grind
theorem trc_mul (m n : Mat) : trc (mul m n) = trc (mul n m) := by simp only [trc, mul, image, Mat.tr, dot]; grind
theorem trc_tr (m : Mat) : trc m.tr = trc m := rfl
theorem tr_mul' (m n : Mat) : (mul m n).tr = mul n.tr m.tr := by
  apply Mat.ext' <;> apply Row.ext' <;> (simp only [image, mul, Mat.tr, dot]; grind)
theorem pw_add (M : Mat) (k : Nat) : ∀ j, pw M (j + k) = mul (pw M j) (pw M k)
  | 0 => by rw [Nat.zero_add]; exact (one_mul' _).symm
  | j + 1 => by
    rw [show j + 1 + k = (j + k) + 1 by omega]
    show mul M (pw M (j + k)) = mul (mul M (pw M j)) (pw M k)
    rw [pw_add M k j, mul_assoc]
theorem pw_one (M : Mat) : pw M 1 = M := mul_one' M
theorem pw_comm (M : Mat) (k : Nat) : mul (pw M k) M = pw M (k + 1) := by
  have := pw_add M 1 k
  rw [pw_one] at this
  exact this.symm
theorem pw_pw (M : Mat) (j : Nat) : ∀ k, pw (pw M j) k = pw M (j * k)
  | 0 => rfl
  | k + 1 => by
    show mul (pw M j) (pw (pw M j) k) = _
    rw [pw_pw M j k, ← pw_add, show j + j * k = j * (k + 1) by rw [Nat.mul_succ, Nat.add_comm]]
theorem pw_of_one (k : Nat) : pw one k = one := by
  induction k with
  | zero => rfl
  | succ k ih => show mul one (pw one k) = one; rw [ih, one_mul']
theorem det_pw (M : Mat) (h : det M = 1) : ∀ k, det (pw M k) = 1
  | 0 => rfl
  | k + 1 => by
    show det (mul M (pw M k)) = 1
    rw [det_mul, h, det_pw M h k]
    rfl
/-- Cayley and Hamilton -/
theorem ch (M : Mat) : mul M (mul M M) = addM (addM (smul (trc M) (mul M M)) (smul (-trc (adj M)) M)) (smul (det M) one) := by
  apply Mat.ext' <;> apply Row.ext' <;> (simp only [image, mul, Mat.tr, dot, addM, smul, trc, adj, det, cross, one]; grind)
theorem trc_sq (M : Mat) : trc (mul M M) = trc M * trc M - 2 * trc (adj M) := by
  simp only [image, mul, Mat.tr, dot, trc, adj, cross]
  grind
/-! a form that M keeps, above 0 -/
def gs (M : Mat) : Nat → Mat
  | 0 => zeroM
  | k + 1 => addM (gs M k) (mul (pw M k).tr (pw M k))
theorem gs_shift (M : Mat) : ∀ n, addM (mul M.tr (mul (gs M n) M)) one = addM (gs M n) (mul (pw M n).tr (pw M n))
  | 0 => by
    have e1 : mul zeroM M = zeroM := by apply Mat.ext' <;> apply Row.ext' <;> (simp only [image, mul, Mat.tr, dot, zeroM]; omega)
    have e2 : mul M.tr zeroM = zeroM := by apply Mat.ext' <;> apply Row.ext' <;> (simp only [image, mul, Mat.tr, dot, zeroM]; omega)
    show addM (mul M.tr (mul zeroM M)) one = addM zeroM (mul one.tr one)
    rw [e1, e2]
    rfl
  | n + 1 => by
    have ih := gs_shift M n
    show addM (mul M.tr (mul (addM (gs M n) (mul (pw M n).tr (pw M n))) M)) one = addM (addM (gs M n) (mul (pw M n).tr (pw M n))) (mul (pw M (n + 1)).tr (pw M (n + 1)))
    rw [addM_mul, mul_addM, ← ih, mul_assoc (pw M n).tr, pw_comm]
    have e : mul M.tr (mul (pw M n).tr (pw M (n + 1))) = mul (pw M (n + 1)).tr (pw M (n + 1)) := by
      rw [← mul_assoc, ← tr_mul', pw_comm]
    rw [e, addM_assoc, addM_assoc, addM_comm one]
where
  sq_nn' (x : Int) : 0 ≤ x * x := by
    rcases Int.le_total 0 x with h | h
    · exact Int.mul_nonneg h h
    · have := Int.mul_nonneg (show 0 ≤ -x by omega) (show 0 ≤ -x by omega)
      rwa [Int.neg_mul_neg] at this
theorem sqz {x : Int} (h : x * x ≤ 0) : x = 0 := by
  rcases Int.lt_trichotomy x 0 with z | z | z
  · have := Int.mul_pos_of_neg_of_neg z z
    omega
  · exact z
  · have := Int.mul_pos z z
    omega
theorem sqn (x : Int) : 0 ≤ x * x := by
  rcases Int.le_total 0 x with h | h
  · exact Int.mul_nonneg h h
  · have := Int.mul_nonneg (show 0 ≤ -x by omega) (show 0 ≤ -x by omega)
    rwa [Int.neg_mul_neg] at this
theorem gs_pd (M : Mat) (x : Row) : ∀ n, dot x x ≤ dot x (image (gs M (n + 1)) x)
  | 0 => by
    show dot x x ≤ dot x (image (addM zeroM (mul one.tr one)) x)
    simp only [dot, image, addM, mul, Mat.tr, zeroM, one]
    grind
  | n + 1 => by
    have ih := gs_pd M x n
    have e : dot x (image (gs M (n + 1 + 1)) x) = dot x (image (gs M (n + 1)) x) + dot (image (pw M (n + 1)) x) (image (pw M (n + 1)) x) := by
      show dot x (image (addM (gs M (n + 1)) (mul (pw M (n + 1)).tr (pw M (n + 1)))) x) = _
      generalize gs M (n + 1) = A
      generalize pw M (n + 1) = B
      simp only [dot, image, addM, mul, Mat.tr]
      grind
    rw [e]
    have s : ∀ y : Row, 0 ≤ dot y y := fun y => Int.add_nonneg (Int.add_nonneg (sqn y.x) (sqn y.y)) (sqn y.z)
    have := s (image (pw M (n + 1)) x)
    omega
theorem pd_det {G : Mat} (h : ∀ x, dot x x ≤ dot x (image G x)) : det G ≠ 0 := fun z => by
  have h1 := h ⟨1, 0, 0⟩
  have e1 : dot ⟨1, 0, 0⟩ (image G ⟨1, 0, 0⟩) = G.a.x := by simp only [dot, image]; omega
  have e2 : dot (⟨1, 0, 0⟩ : Row) ⟨1, 0, 0⟩ = 1 := by decide
  rw [e1, e2] at h1
  -- a column of the adjugate is led to nothing
  have hz : image G (image (adj G) ⟨0, 0, 1⟩) = ⟨0, 0, 0⟩ := by
    rw [← image_mul, mul_adj, z]
    decide
  have h2 := h (image (adj G) ⟨0, 0, 1⟩)
  rw [hz] at h2
  have e3 : dot (image (adj G) ⟨0, 0, 1⟩) ⟨0, 0, 0⟩ = 0 := by simp [dot]
  rw [e3] at h2
  have e4 : (image (adj G) ⟨0, 0, 1⟩).z = G.a.x * G.b.y - G.a.y * G.b.x := by
    simp only [image, dot, adj, Mat.tr, cross]
    omega
  have h3 : (image (adj G) ⟨0, 0, 1⟩).z = 0 := by
    apply sqz
    have a1 := sqn (image (adj G) ⟨0, 0, 1⟩).x
    have a2 := sqn (image (adj G) ⟨0, 0, 1⟩).y
    have h2' : (image (adj G) ⟨0, 0, 1⟩).x * (image (adj G) ⟨0, 0, 1⟩).x + (image (adj G) ⟨0, 0, 1⟩).y * (image (adj G) ⟨0, 0, 1⟩).y + (image (adj G) ⟨0, 0, 1⟩).z * (image (adj G) ⟨0, 0, 1⟩).z ≤ 0 := h2
    omega
  rw [e4] at h3
  have h5 := h ⟨-G.a.y, G.a.x, 0⟩
  have e5 : dot ⟨-G.a.y, G.a.x, 0⟩ (image G ⟨-G.a.y, G.a.x, 0⟩) = G.a.x * (G.a.x * G.b.y - G.a.y * G.b.x) := by
    simp only [dot, image]
    grind
  rw [e5, h3, Int.mul_zero] at h5
  have h6 : G.a.x = 0 := by
    apply sqz
    have a1 := sqn G.a.y
    have h5' : -G.a.y * -G.a.y + G.a.x * G.a.x + 0 * 0 ≤ 0 := h5
    have e6 : -G.a.y * -G.a.y = G.a.y * G.a.y := Int.neg_mul_neg _ _
    omega
  omega
/-- of a finite order: the trace of the inverse is the trace -/
theorem fin_trc {M : Mat} (hd : det M = 1) {n : Nat} (hn : pw M (n + 1) = one) : trc (adj M) = trc M := by
  obtain ⟨G, hG⟩ : ∃ G, G = gs M (n + 1) := ⟨_, rfl⟩
  have inv : mul M.tr (mul G M) = G := by
    have s := gs_shift M (n + 1)
    rw [hn, ← hG] at s
    have e : mul one.tr one = one := by decide
    rw [e] at s
    exact addM_cancel s
  have ne : det G ≠ 0 := pd_det fun x => by rw [hG]; exact gs_pd M x n
  have h1 : mul M.tr G = mul G (adj M) := by
    have := congrArg (fun X => mul X (adj M)) inv
    rw [mul_assoc, mul_assoc, mul_adj, hd] at this
    have e : mul G (smul 1 one) = G := by rw [mul_smul, mul_one']; apply Mat.ext' <;> apply Row.ext' <;> (simp only [smul]; omega)
    rw [e] at this
    exact this
  have h2 : trc (mul (mul G (adj M)) (adj G)) = det G * trc (adj M) := by
    rw [trc_mul, ← mul_assoc, adj_mul, smul_mul, one_mul', trc_smul]
  have h3 : trc (mul (mul M.tr G) (adj G)) = det G * trc M := by
    rw [mul_assoc, mul_adj, mul_smul, mul_one', trc_smul, trc_tr]
  rw [h1, h2] at h3
  exact Int.eq_of_mul_eq_mul_left ne h3
/-! the traces of the powers -/
section
variable {N : Mat} (hd : det N = 1) (ht : trc (adj N) = trc N)
include hd ht
theorem ch1 : mul N (mul N N) = addM (addM (smul (trc N) (mul N N)) (smul (-trc N) N)) one := by
  rw [ch, hd, ht]
  congr 1
theorem pw3 (k : Nat) : pw N (k + 3) = addM (addM (smul (trc N) (pw N (k + 2))) (smul (-trc N) (pw N (k + 1)))) (pw N k) := by
  have e : pw N (k + 3) = mul (mul N (mul N N)) (pw N k) := by
    show mul N (mul N (mul N (pw N k))) = _
    rw [mul_assoc, mul_assoc]
  rw [e, ch1 hd ht, addM_mul, addM_mul, smul_mul, smul_mul, one_mul', mul_assoc]
  rfl
theorem trc3 (k : Nat) : trc (pw N (k + 3)) = trc N * trc (pw N (k + 2)) - trc N * trc (pw N (k + 1)) + trc (pw N k) := by
  rw [pw3 hd ht, trc_add, trc_add, trc_smul, trc_smul, Int.neg_mul]
  omega
theorem trc2 : ∀ k, trc (pw N (k + 2)) - 1 - (trc N - 1) * (trc (pw N (k + 1)) - 1) + (trc (pw N k) - 1) = 0
  | 0 => by
    show trc (mul N (mul N one)) - 1 - (trc N - 1) * (trc (mul N one) - 1) + (trc one - 1) = 0
    have e : trc one = 3 := by decide
    rw [mul_one', trc_sq, ht, e]
    grind
  | k + 1 => by
    have ih := trc2 k
    have h3 := trc3 hd ht k
    show trc (pw N (k + 3)) - 1 - (trc N - 1) * (trc (pw N (k + 2)) - 1) + (trc (pw N (k + 1)) - 1) = 0
    rw [h3]
    generalize trc (pw N (k + 2)) = p2 at *
    generalize trc (pw N (k + 1)) = p1 at *
    generalize trc (pw N k) = p0 at *
    grind
/-- traces that grow -/
theorem trc_grow (hu : 3 ≤ (trc N - 1).natAbs) : ∀ k, 2 ≤ (trc (pw N k) - 1).natAbs ∧ (trc (pw N k) - 1).natAbs < (trc (pw N (k + 1)) - 1).natAbs
  | 0 => by
    have e : trc (pw N 0) = 3 := show trc one = 3 by decide
    rw [e, pw_one]
    exact ⟨by decide, hu⟩
  | k + 1 => by
    obtain ⟨h1, h2⟩ := trc_grow hu k
    have h3 := trc2 hd ht k
    refine ⟨by omega, ?_⟩
    show (trc (pw N (k + 1)) - 1).natAbs < (trc (pw N (k + 2)) - 1).natAbs
    generalize trc (pw N (k + 2)) - 1 = a2 at *
    generalize trc (pw N (k + 1)) - 1 = a1 at *
    generalize trc (pw N k) - 1 = a0 at *
    have e : a2 = (trc N - 1) * a1 - a0 := by omega
    have m : ((trc N - 1) * a1).natAbs = (trc N - 1).natAbs * a1.natAbs := Int.natAbs_mul _ _
    have m2 := Nat.mul_le_mul_right a1.natAbs hu
    omega
theorem trc_small {n : Nat} (hn : pw N (n + 1) = one) : (trc N - 1).natAbs ≤ 2 := by
  refine Nat.not_lt.1 fun z => ?_
  have := trc_grow hd ht (show 3 ≤ (trc N - 1).natAbs by omega) n
  rw [hn, show trc one = 3 by decide] at this
  have h2 : ((3 : Int) - 1).natAbs = 2 := by decide
  omega
end
/-- .. if the trace is 3 it is the identity -/
theorem trc_three {N : Mat} (hd : det N = 1) (ht : trc (adj N) = trc N) (h3 : trc N = 3) {n : Nat} (hn : pw N (n + 1) = one) : N = one := by
  obtain ⟨Z, hZ⟩ : ∃ Z, Z = addM N (smul (-1) one) := ⟨_, rfl⟩
  have hN : N = addM one Z := by
    rw [hZ]
    apply Mat.ext' <;> apply Row.ext' <;> (simp only [addM, smul, one]; omega)
  have c := ch1 hd ht
  rw [h3] at c
  have z3 : mul Z (mul Z Z) = zeroM := by
    have e : mul Z (mul Z Z) = addM (addM (addM (mul N (mul N N)) (smul (-3) (mul N N))) (smul 3 N)) (smul (-1) one) := by
      rw [hZ]
      apply Mat.ext' <;> apply Row.ext' <;> (simp only [image, mul, Mat.tr, dot, addM, smul, one]; grind)
    rw [e, c]
    apply Mat.ext' <;> apply Row.ext' <;> (simp only [addM, smul, one, zeroM]; omega)
  -- the powers of 1 + Z
  have pz : ∀ k : Nat, ∃ b : Int, pw N k = addM (addM one (smul k Z)) (smul b (mul Z Z)) := fun k => by
    induction k with
    | zero => exact ⟨0, by apply Mat.ext' <;> apply Row.ext' <;> (simp only [pw, addM, smul, one]; omega)⟩
    | succ k ih =>
      obtain ⟨b, hb⟩ := ih
      refine ⟨b + k, ?_⟩
      show mul N (pw N k) = _
      rw [hb, hN, addM_mul, one_mul', mul_addM, mul_addM, mul_one', mul_smul, mul_smul, z3]
      apply Mat.ext' <;> apply Row.ext' <;> (simp only [addM, smul, one, zeroM]; grind)
  obtain ⟨b, hb⟩ := pz (n + 1)
  rw [hn] at hb
  have q1 : addM (smul (n + 1 : Nat) Z) (smul b (mul Z Z)) = zeroM := by
    have e : addM (addM one (smul (n + 1 : Nat) Z)) (smul b (mul Z Z)) = addM (addM (smul (n + 1 : Nat) Z) (smul b (mul Z Z))) one := by
      rw [addM_assoc, addM_comm]
    rw [e] at hb
    have e2 : one = addM zeroM one := by apply Mat.ext' <;> apply Row.ext' <;> (simp only [addM, one, zeroM]; omega)
    rw [e2] at hb
    exact (addM_cancel hb).symm
  have mz : ∀ X : Mat, mul X zeroM = zeroM := fun X => by apply Mat.ext' <;> apply Row.ext' <;> (simp only [image, mul, Mat.tr, dot, zeroM]; omega)
  have sz : ∀ (x : Int) (X : Mat), x ≠ 0 → smul x X = zeroM → X = zeroM := fun x X hx h => by
    have f : ∀ y : Int, x * y = 0 → y = 0 := fun y hy => (Int.mul_eq_zero.1 hy).resolve_left hx
    have ha := congrArg Mat.a h
    have hb := congrArg Mat.b h
    have hc := congrArg Mat.c h
    exact Mat.ext' (Row.ext' (f _ (congrArg Row.x ha)) (f _ (congrArg Row.y ha)) (f _ (congrArg Row.z ha))) (Row.ext' (f _ (congrArg Row.x hb)) (f _ (congrArg Row.y hb)) (f _ (congrArg Row.z hb))) (Row.ext' (f _ (congrArg Row.x hc)) (f _ (congrArg Row.y hc)) (f _ (congrArg Row.z hc)))
  have s0 : ∀ x : Int, smul x zeroM = zeroM := fun x => by apply Mat.ext' <;> apply Row.ext' <;> (simp only [smul, zeroM]; omega)
  have a0 : ∀ X : Mat, addM X zeroM = X := fun X => by apply Mat.ext' <;> apply Row.ext' <;> (simp only [addM, zeroM]; omega)
  have z2 : mul Z Z = zeroM := by
    have := congrArg (fun X => mul Z X) q1
    rw [mul_addM, mul_smul, mul_smul, z3, s0, a0, mz] at this
    exact sz _ _ (by omega) this
  rw [z2, s0, a0] at q1
  have z1 := sz _ _ (by omega) q1
  rw [hN, z1, a0]
/-- one of the orders 1, 2, 3, 4, 6 -/
theorem fin_orders {N : Mat} (hd : det N = 1) {n : Nat} (hn : pw N (n + 1) = one) : N = one ∨ pw N 2 = one ∨ pw N 3 = one ∨ pw N 4 = one ∨ pw N 6 = one := by
  have ht := fin_trc hd hn
  have hs := trc_small hd ht hn
  have c0 : pw N 3 = addM (addM (smul (trc N) (pw N 2)) (smul (-trc N) (pw N 1))) (pw N 0) := pw3 hd ht 0
  have c1 : pw N 4 = addM (addM (smul (trc N) (pw N 3)) (smul (-trc N) (pw N 2))) (pw N 1) := pw3 hd ht 1
  have c2 : pw N 5 = addM (addM (smul (trc N) (pw N 4)) (smul (-trc N) (pw N 3))) (pw N 2) := pw3 hd ht 2
  have c3 : pw N 6 = addM (addM (smul (trc N) (pw N 5)) (smul (-trc N) (pw N 4))) (pw N 3) := pw3 hd ht 3
  have p0 : pw N 0 = one := rfl
  have hcases : trc N = 3 ∨ trc N = 2 ∨ trc N = 1 ∨ trc N = 0 ∨ trc N = -1 := by omega
  rcases hcases with t | t | t | t | t
  · exact .inl (trc_three hd ht t hn)
  · refine .inr (.inr (.inr (.inr ?_)))
    rw [t] at c0 c1 c2 c3
    rw [c3, c2, c1, c0, p0]
    generalize pw N 2 = X
    apply Mat.ext' <;> apply Row.ext' <;> (simp only [addM, smul, one]; omega)
  · refine .inr (.inr (.inr (.inl ?_)))
    rw [t] at c0 c1
    rw [c1, c0, p0]
    apply Mat.ext' <;> apply Row.ext' <;> (simp only [addM, smul, one]; omega)
  · refine .inr (.inr (.inl ?_))
    rw [t] at c0
    rw [c0, p0]
    apply Mat.ext' <;> apply Row.ext' <;> (simp only [addM, smul, one]; omega)
  · refine .inr (.inl ?_)
    have d2 : det (pw N 2) = 1 := det_pw N hd 2
    have n2 : pw (pw N 2) (n + 1) = one := by
      rw [pw_pw, Nat.mul_comm, ← pw_pw, hn, pw_of_one]
    have t2 := fin_trc d2 n2
    refine trc_three d2 t2 ?_ n2
    have e : pw N 2 = mul N N := by
      show mul N (mul N one) = _
      rw [mul_one']
    rw [e, trc_sq, ht, t]
    decide
theorem smul_pw (M : Mat) : ∀ k, pw (smul (-1) M) (2 * k) = pw M (2 * k)
  | 0 => rfl
  | k + 1 => by
    show mul (smul (-1) M) (mul (smul (-1) M) (pw (smul (-1) M) (2 * k))) = mul M (mul M (pw M (2 * k)))
    rw [smul_pw M k, smul_mul, smul_mul, mul_smul]
    generalize mul M (mul M (pw M (2 * k))) = X
    apply Mat.ext' <;> apply Row.ext' <;> (simp only [smul]; omega)
/-- a table of determinant 1 or -1 of a finite order has an order of at most 6 -/
theorem orders {M : Mat} (hd : det M = 1 ∨ det M = -1) {n : Nat} (hn : pw M (n + 1) = one) : ∃ m, 1 ≤ m ∧ m ≤ 6 ∧ pw M m = one := by
  rcases hd with hd | hd
  · rcases fin_orders hd hn with h | h | h | h | h
    · exact ⟨1, by decide, by decide, by rw [pw_one]; exact h⟩
    · exact ⟨2, by decide, by decide, h⟩
    · exact ⟨3, by decide, by decide, h⟩
    · exact ⟨4, by decide, by decide, h⟩
    · exact ⟨6, by decide, by decide, h⟩
  · have dN : det (smul (-1) M) = 1 := by
      have e : det (smul (-1) M) = -det M := by simp only [det, cross, dot, smul]; grind
      rw [e, hd]
      decide
    have hN : pw (smul (-1) M) ((2 * n + 1) + 1) = one := by
      have e : (2 * n + 1) + 1 = 2 * (n + 1) := by omega
      rw [e, smul_pw, Nat.mul_comm, ← pw_pw, hn, pw_of_one]
    have f : ∀ k, pw (smul (-1) M) (2 * k) = one → pw M (2 * k) = one := fun k h => by rw [← smul_pw]; exact h
    rcases fin_orders dN hN with h | h | h | h | h
    · exact ⟨2, by decide, by decide, f 1 (by rw [h]; decide)⟩
    · exact ⟨2, by decide, by decide, f 1 h⟩
    · exact ⟨6, by decide, by decide, f 3 (by rw [show 2 * 3 = 3 * 2 by decide, ← pw_pw, h]; decide)⟩
    · exact ⟨4, by decide, by decide, f 2 h⟩
    · exact ⟨6, by decide, by decide, f 3 h⟩
end Cz

/-! NA: the form without roots, moved by steps. -/
namespace Cz
open PySem PySem.Spec PyProof.Rows L2 Kx
def latB2 (m : Mat) (N : Int) : Bool := matB40 17592186044416 (narM unitM m.a N) && (matB40 17592186044416 (narM (narM unitM m.a N) m.b N) && matB40 17592186044416 (latM m N))
def layB2 (m : Mat) (p : Row) (N : Int) : Bool := rowB40 274877906944 (layQ m p N).r && (rowB40 274877906944 (layQ m p N).s && (rowB40 274877906944 (layQ m p N).t && decide ((layQ m p N).g < 1073741824)))
def genB2 (m : Mat) (p : Row) : Bool := decide (lastM m ≤ 500) && (kindsM m).all fun k => latB2 m (kindN k) && layB2 m p (kindN k)
theorem gen_lat2 {m : Mat} {p : Row} (hA : formOk m = true) (hq : Q m p < 0) (hB : genB2 m p = true) {b : Int} (hb0 : 0 ≤ b) (hb1 : b ≤ 500) : lastM m ≤ 500 ∧ ∀ k ∈ kindsM m, LatSm m (kindN k) ∧ LayOk m (layN m p k) 300 ∧
    (∀ i, i < orC m p b k → PtOk m (layN m p k) (-(0 + (i : Int) * (layN m p k).g)) k) ∧ (layN m p k).g < 1073741824 := by
  unfold genB2 at hB
  rw [Bool.and_eq_true, List.all_eq_true, decide_eq_true_eq] at hB
  refine ⟨hB.1, fun k hk => ?_⟩
  have h := hB.2 k hk
  obtain ⟨hk0, hk1⟩ := kinds_mem hk
  have hN := kindN_pos hk0
  rw [Bool.and_eq_true] at h
  obtain ⟨hl, hy⟩ := h
  unfold latB2 at hl
  unfold layB2 at hy
  rw [Bool.and_eq_true, Bool.and_eq_true] at hl
  rw [Bool.and_eq_true, Bool.and_eq_true, Bool.and_eq_true, decide_eq_true_eq] at hy
  have hs : m.sm 10 := items_sm (formOk_items hA)
  have L := lat_ok hA hq hN
  have y1 : (layQ m p (kindN k)).r.sm 38 := row_sm hy.1 (by decide)
  have y2 : (layQ m p (kindN k)).s.sm 38 := row_sm hy.2.1 (by decide)
  have y3 : (layQ m p (kindN k)).t.sm 38 := row_sm hy.2.2.1 (by decide)
  have y4 := hy.2.2.2
  show LatSm _ _ ∧ LayOk _ (layQ m p (kindN k)) 300 ∧ (∀ i, i < orC m p b k → PtOk _ (layQ m p (kindN k)) (-(0 + (i : Int) * (layQ m p (kindN k)).g)) k) ∧ (layQ m p (kindN k)).g < 1073741824
  have eC : orC m p b k = rgN 0 (isq (b * k) + 1) (layQ m p (kindN k)).g := rfl
  rw [eC]
  generalize layQ m p (kindN k) = q at *
  have q1 : Sm 106 (Q m q.s) := (sm_dot y2 (sm_image hs y2)).mono (by decide)
  have q2 : Sm 106 (Q m q.t) := (sm_dot y3 (sm_image hs y3)).mono (by decide)
  have ss := short_sm L.hs L.pd (n := 44) (y2.mono (by decide)) (y3.mono (by decide)) q1 q2
  have hg := L.g
  have hgs : Sm 30 q.g := by
    unfold Sm
    omega
  refine ⟨⟨(mat_sm hl.1 (show 17592186044416 = 2 ^ 44 by decide)).mono (by decide), (mat_sm hl.2.1 (show 17592186044416 = 2 ^ 44 by decide)).mono (by decide), (mat_sm hl.2.2 (show 17592186044416 = 2 ^ 44 by decide)).mono (by decide)⟩,
    ⟨hs.mono (by decide), L.hs, hg, L.pd, y1.mono (by decide), ss.1.mono (by decide), ss.2.mono (by decide), hgs.mono (by decide), by decide⟩, fun i hi => ?_, y4⟩
  have hbn0 : 0 ≤ b * k := Int.mul_nonneg hb0 (by omega)
  have hbn1 : b * k ≤ 500000 := by
    have := Int.mul_le_mul hb1 (show k ≤ 1000 by omega) (by omega) (by decide)
    omega
  obtain ⟨z0, z1⟩ := isq_small hbn1 hbn0
  have hlt := rgN_lt hg hi
  have ha0 : 0 ≤ (i : Int) * q.g := Int.mul_nonneg (by omega) (by omega)
  have e0 : -(0 + (i : Int) * q.g) = (-(i : Int)) * q.g := by rw [Int.zero_add, Int.neg_mul]
  have hz : (-(0 + (i : Int) * q.g)) % q.g = 0 := by
    rw [e0]
    exact Int.mul_emod_left _ _
  have hdiv : (-(0 + (i : Int) * q.g)) / q.g = -(i : Int) := by
    rw [e0]
    exact Int.mul_ediv_cancel _ (by omega)
  have hi1 : (i : Int) ≤ 1024 := by
    have : (i : Int) * 1 ≤ (i : Int) * q.g := Int.mul_le_mul_of_nonneg_left (by omega) (by omega)
    omega
  refine pt_ok hA hq L hz (by omega) (by omega) ?_
  have rl : q.r.le 274877906944 := le_of_sm y1
  have sl : (lyS q (-(0 + (i : Int) * q.g))).le (1024 * 274877906944) := by
    unfold lyS
    rw [hdiv]
    exact scR_le rl (by omega) (by decide)
  have := q_le hs sl (by decide)
  exact Int.le_trans this (by decide)
/-- one with one item set -/
def elT (i j k : Int) : Mat := ⟨⟨1, if i = 0 ∧ j = 1 then k else 0, if i = 0 ∧ j = 2 then k else 0⟩, ⟨if i = 1 ∧ j = 0 then k else 0, 1, if i = 1 ∧ j = 2 then k else 0⟩, ⟨if i = 2 ∧ j = 0 then k else 0, if i = 2 ∧ j = 1 then k else 0, 1⟩⟩
def dgI (d : Int) : Int := d % 3
def dgJ (d : Int) : Int := d / 3 % 3
def dgK (d : Int) : Int := d / 9 % 3 - 1
/-- a step of the law: the table and its inverse -/
def movS (q : Mat × Mat) (d : Int) : Mat × Mat := if dgI d ≠ dgJ d ∧ dgK d ≠ 0 then (mul q.1 (elT (dgI d) (dgJ d) (dgK d)), mul (elT (dgI d) (dgJ d) (0 - dgK d)) q.2) else q
def movM (ds : List Int) : Mat × Mat := ds.foldl movS (one, one)
theorem dg_mod (d : Int) : dgI (d % 27) = dgI d ∧ dgJ (d % 27) = dgJ d ∧ dgK (d % 27) = dgK d := by
  unfold dgI dgJ dgK
  exact ⟨by omega, by omega, by omega⟩
theorem movS_mod (q : Mat × Mat) (d : Int) : movS q d = movS q (d % 27) := by
  obtain ⟨h1, h2, h3⟩ := dg_mod d
  unfold movS
  rw [h1, h2, h3]
def repD : List Int := [0, 1, 2, 3, 5, 6, 7, 19, 20, 21, 23, 24, 25]
def skipD (d : Int) : Bool := !(decide (dgI d ≠ dgJ d) && decide (dgK d ≠ 0))
theorem rep_all : (List.range 27).all (fun (d : Nat) => decide ((d : Int) ∈ repD) || skipD d) = true := by decide +kernel
theorem rep_zero : skipD 0 = true := by decide +kernel
theorem skip_eq {d : Int} (h : skipD d = true) (q : Mat × Mat) : movS q d = q := by
  unfold skipD at h
  unfold movS
  rw [if_neg]
  rintro ⟨h1, h2⟩
  rw [decide_eq_true h1, decide_eq_true h2] at h
  cases h
theorem rep_ok (d : Int) : ∃ e ∈ repD, ∀ q, movS q d = movS q e := by
  have h0 : 0 ≤ d % 27 := Int.emod_nonneg _ (by decide)
  have h1 : d % 27 < 27 := Int.emod_lt_of_pos _ (by decide)
  obtain ⟨n, hn⟩ : ∃ n : Nat, d % 27 = (n : Int) := ⟨(d % 27).toNat, by omega⟩
  have h := List.all_eq_true.1 rep_all n (List.mem_range.2 (by omega))
  rw [Bool.or_eq_true, decide_eq_true_eq] at h
  rcases h with h | h
  · exact ⟨n, h, fun q => by rw [movS_mod, hn]⟩
  · exact ⟨0, by decide, fun q => by rw [movS_mod, hn, skip_eq h, skip_eq rep_zero]⟩
theorem elT_sm {i j k : Int} (h : k = -1 ∨ k = 0 ∨ k = 1) : (elT i j k).sm 2 := by
  have one2 : Sm 2 (1 : Int) := by unfold Sm; decide
  have z : Sm 2 (0 : Int) := by unfold Sm; decide
  have hk : Sm 2 k := by unfold Sm; omega
  have f : ∀ c : Prop, [Decidable c] → Sm 2 (if c then k else 0) := fun c _ => by split <;> assumption
  exact ⟨⟨one2, f _, f _⟩, ⟨f _, one2, f _⟩, ⟨f _, f _, one2⟩⟩
theorem dgK_cases (d : Int) : dgK d = -1 ∨ dgK d = 0 ∨ dgK d = 1 := by
  unfold dgK
  have h0 := Int.emod_nonneg (d / 9) (show (3 : Int) ≠ 0 by decide)
  have h1 := Int.emod_lt_of_pos (d / 9) (show (0 : Int) < 3 by decide)
  omega
theorem movS_sm {q : Mat × Mat} {n : Nat} (d : Int) (h : q.1.sm n ∧ q.2.sm n) : (movS q d).1.sm (n + 4) ∧ (movS q d).2.sm (n + 4) := by
  unfold movS
  split
  · exact ⟨(sm_mul h.1 (elT_sm (dgK_cases d))).mono (by omega), (sm_mul (elT_sm (by have := dgK_cases d; omega)) h.2).mono (by omega)⟩
  · exact ⟨h.1.mono (by omega), h.2.mono (by omega)⟩
theorem fold_movS {ds : List Int} : ∀ {q : Mat × Mat} {n : Nat}, q.1.sm n ∧ q.2.sm n → (ds.foldl movS q).1.sm (n + 4 * ds.length) ∧ (ds.foldl movS q).2.sm (n + 4 * ds.length) := by
  induction ds with
  | nil => intro q n h; exact h
  | cons d ds ih =>
    intro q n h
    have := ih (movS_sm d h)
    rw [List.foldl_cons, List.length_cons]
    exact ⟨this.1.mono (by omega), this.2.mono (by omega)⟩
theorem movM_sm (ds : List Int) : (movM ds).1.sm (2 + 4 * ds.length) ∧ (movM ds).2.sm (2 + 4 * ds.length) := fold_movS (n := 2) ⟨one_sm.mono (by decide), one_sm.mono (by decide)⟩
/-- the lists that the law writes -/
def llM (m : Mat) : List (List T) := [[.int m.a.x, .int m.a.y, .int m.a.z], [.int m.b.x, .int m.b.y, .int m.b.z], [.int m.c.x, .int m.c.y, .int m.c.z]]
def oneI : List (List Int) := [[1, 0, 0], [0, 1, 0], [0, 0, 1]]
theorem ll_put {i j k : Int} (hi : 0 ≤ i ∧ i < 3) (hj : 0 ≤ j ∧ j < 3) (ne : i ≠ j) : (oneI.set i.toNat ((oneI.getD i.toNat []).set j.toNat k)).map intsT = llM (elT i j k) := by
  have h1 : i = 0 ∨ i = 1 ∨ i = 2 := by omega
  have h2 : j = 0 ∨ j = 1 ∨ j = 2 := by omega
  rcases h1 with rfl | rfl | rfl <;> rcases h2 with rfl | rfl | rfl <;> first | exact absurd rfl ne | rfl
/-! ### two steps -/
structure BareM (m : Mat) (p : Row) (M B : Mat) : Prop where
  ok : formOk m = true
  q : Q m p < 0
  p5 : p.le 5
  gen : genB2 m p = true
  kin : kindsM m = kindsM bareF
  inv : mul M B = one
  cng : m = cong bareF M
  pe : p = image B ⟨0, 0, 1⟩
  ms : M.sm 10 ∧ B.sm 10
def leM (m : Mat) (b : Int) : Bool := leB m.a b && (leB m.b b && leB m.c b)
def bareC (d e : Int) : Bool :=
  let q := movM [d, e]
  let m := cong bareF q.1
  let p := image q.2 ⟨0, 0, 1⟩
  (formOk m && (decide (Q m p < 0) && (leB p 5 && genB2 m p))) && ((decide (kindsM m = kindsM bareF) && decide (mul q.1 q.2 = one)) && (leM q.1 15 && leM q.2 15))
theorem bareC_all : repD.all (fun d => repD.all fun e => bareC d e) = true := by decide +kernel
theorem bareM_ok (d e : Int) : BareM (cong bareF (movM [d, e]).1) (image (movM [d, e]).2 ⟨0, 0, 1⟩) (movM [d, e]).1 (movM [d, e]).2 := by
  obtain ⟨d', hd, h1⟩ := rep_ok d
  obtain ⟨e', he, h2⟩ := rep_ok e
  have em : movM [d, e] = movM [d', e'] := by
    show movS (movS (one, one) d) e = movS (movS (one, one) d') e'
    rw [h1, h2]
  rw [em]
  have h := List.all_eq_true.1 (List.all_eq_true.1 bareC_all d' hd) e' he
  unfold bareC leM at h
  simp only [Bool.and_eq_true, decide_eq_true_eq] at h
  obtain ⟨⟨a1, a2, a3, a4⟩, ⟨a5, a6⟩, ⟨b1, b2, b3⟩, b4, b5, b6⟩ := h
  have s : ∀ {r : Row}, leB r 15 = true → r.sm 10 := fun h => ((by obtain ⟨⟨a1, a2⟩, ⟨b1, b2⟩, ⟨c1, c2⟩⟩ := leB_iff.1 h; exact ⟨by unfold Sm; omega, by unfold Sm; omega, by unfold Sm; omega⟩))
  exact ⟨a1, a2, leB_iff.1 a3, a4, a5, a6, rfl, rfl, ⟨s b1, s b2, s b3⟩, ⟨s b4, s b5, s b6⟩⟩
/-- no row can be a root -/
theorem BareM.no {m M B : Mat} {p : Row} (h : BareM m p M B) (r : Row) {n : Int} (hn : n ∈ kindsM m) (hd : kindN n ∣ (image m r).x ∧ kindN n ∣ (image m r).y ∧ kindN n ∣ (image m r).z) : Q m r ≠ n := by
  rw [h.kin] at hn
  have e1 : Q m r = Q bareF (image M r) := by rw [h.cng, Q_cong]
  have e2 : image B.tr (image m r) = image bareF (image M r) := by
    rw [h.cng]
    unfold cong
    rw [image_mul, image_mul, ← image_mul, ← tr_mul', h.inv]
    have : (one : Mat).tr = one := by decide
    rw [this, image_one]
  rw [e1]
  refine bare_no _ hn ?_
  rw [← e2]
  obtain ⟨d1, d2, d3⟩ := hd
  have lin : ∀ v : Row, kindN n ∣ dot v (image m r) := fun v => by
    unfold dot
    exact Int.dvd_add (Int.dvd_add (Int.dvd_mul_of_dvd_right d1) (Int.dvd_mul_of_dvd_right d2)) (Int.dvd_mul_of_dvd_right d3)
  exact ⟨lin _, lin _, lin _⟩
theorem BareM.nil {m M B : Mat} {p : Row} (h : BareM m p M B) (b : Int) : orP m p b = [] := by
  unfold orP
  refine List.flatMap_eq_nil_iff.2 fun n hn => ?_
  unfold orN
  refine List.flatMap_eq_nil_iff.2 fun i _ => ?_
  unfold orE orR
  have e : ∀ a, rowsM m (layN m p n) a n = [] := fun a => by
    refine List.eq_nil_iff_forall_not_mem.2 fun r hr => ?_
    obtain ⟨h1, _, h2⟩ := (mem_lay h.ok h.q (kindN_pos (kinds_mem hn).1) a n r).1 hr
    exact h.no r hn h1 h2
  rw [e]
  rfl
theorem BareM.out {m M B : Mat} {p : Row} (h : BareM m p M B) {b : Int} (h0 : 0 ≤ b) (h1 : b ≤ 500) : OutOk m p b ∧ (orP m p b).length < 400000 := by
  obtain ⟨_, k⟩ := gen_lat2 h.ok h.q h.gen h0 h1
  have e := h.nil b
  exact ⟨⟨fun n hn => (k n hn).1, fun n hn => (k n hn).2.1, fun n hn => (k n hn).2.2.1, fun n hn => (k n hn).2.2.2, by rw [e]; decide⟩, by rw [e]; decide⟩
theorem BareM.walls {m M B : Mat} {p : Row} (h : BareM m p M B) (b : Int) : waM m p (sortP (orP m p b)) = [] := by
  rw [h.nil]
  have e : sortP [] = [] := List.eq_nil_iff_forall_not_mem.2 fun q hq => by
    rw [sortP_mem] at hq
    cases hq
  rw [e]
  rfl
theorem BareM.root {m M B : Mat} {p : Row} (h : BareM m p M B) (r : Row) : rootP m r = false := by
  rw [Bool.eq_false_iff]
  intro z
  have hr := rootP_iff.1 z
  have n0 := hr.pos
  exact h.no r (kind_mem h.ok hr) ⟨kind_dvd1 n0 hr.dx, kind_dvd1 n0 hr.dy, kind_dvd1 n0 hr.dz⟩ rfl
end Cz

/-! MV: the images of a row of the room, inside or on the rim, up to a height. -/
namespace Cz
open PySem PySem.Spec PyProof.Rows L2 Kx
/-- a forward row inside or on the rim -/
structure Fw (n : Int) (u : Row) : Prop where
  q : Q (choF n) u ≤ 0
  b : bil (choF n) (choP n) u < 0
/-- u comes of c by a word of walls -/
def Orb (n : Int) (c u : Row) : Prop := ∃ t : List Row, (∀ w ∈ t, w ∈ WT n) ∧ t.foldr (led (choF n)) c = u
noncomputable instance orbD (n : Int) (c r : Row) : Decidable (Orb n c r) := Classical.propDecidable _
end Cz

/-! MW: rows on the rim: behind all walls they are the corners on the rim. -/
namespace Cz
open PySem PySem.Spec PyProof.Rows L2 Kx
/-! ### of the 459 rooms -/
structure RimN (n : Int) : Prop where
  pair : ∀ x ∈ (polyN n).map (·.1), ∀ y ∈ (polyN n).map (·.1), x = y ∨ bil (choF n) x y < 0
  corn : ∀ x ∈ (polyN n).map (·.1), Q (choF n) x = 0 → x ∈ cornN n ∧ bareN x = 1
  nd : (cornN n).Nodup
  bare : ∀ x ∈ cornN n, Q (choF n) x = 0 → bareN x = 1
end Cz

/-! MU: the outward roots that part a row from the base. -/
namespace Cz
open PySem PySem.Spec PyProof.Rows L2 Kx
/-! ### the list of the box -/
/-! ### each root once -/
/-! ### as many as the word has members -/
end Cz

/-! MX: the images of a corner on the rim: how many, how large; all bare rows on the rim up to a height. -/
namespace Cz
open PySem PySem.Spec PyProof.Rows L2 Kx
/-! ### the rows that the law is due -/
end Cz

/-! CzD: a dict whose keys are rows: {r: True}, d[r] = True, r not in d, sorted(d). -/
namespace Cz
open PySem PySem.Spec PySem.Calls PyProof.Rows L2 PySem.W
section
variable {X : Cx} {pos : Pos} {k v : Expr} {tk tv : TE}
end
/-! ### sorted(d) -/
section
variable {prog : Program} {w : World} {A : Around} {E : Value → Shared → Prop} {s : Shared} {d : Addr} {es : Array DictEntry} {ep : Nat}
end
section
variable {X : Cx}
end
/-! ### the rules by K -/
section
variable {X : Cx} {pos : Pos} {k v e : Expr} {tk tv te : TE}
end
section
variable {P : Program} {w : World} {K : PySem.W.Frag} {Γ : List D} {a : Addr} {m : List (Row × XV)} {mt : Bool} {Pz : PoX} {W : WX} {t u : TS} {te ti td ta tb tk : TE} {x y : T} {xs : List T}
end
end Cz

/-! CzA: loops over ranges and tuples in a frame with a dict. -/
namespace Cz
open PySem PySem.Spec PyProof.Rows L2 Kx
section
variable {P : Program} {w : World} {K : PySem.W.Frag} {Γ : List D} {a : Addr} {m : List (Row × XV)} {mt : Bool} {Pz : PoX} {W : WX} {t u : TS} {te ti td ta tb : TE} {x y : T} {xs : List T} {g : TG}
end
end Cz

/-! MZ: lists of rows compared; whole right triangles. -/
namespace Cz
open PySem PySem.Spec PyProof.Rows L2 Kx
theorem pls_rowsL : ∀ rs : List Row, T.pls (rs.map row) = true
  | [] => rfl
  | r :: rs => by
    have := pls_rowsL rs
    rw [List.map_cons, T.pls, this]
    rfl
theorem lay_rowsL : ∀ rs : List Row, PyData.canLayAll0 (T.pys (rs.map row)) = true
  | [] => rfl
  | r :: rs => by
    have := lay_rowsL rs
    rw [List.map_cons, T.pys, PyData.canLayAll0, this]
    rfl
theorem depth_rowsL : ∀ rs : List Row, PyData.depthAll (T.pys (rs.map row)) ≤ 1
  | [] => by decide
  | r :: rs => by
    have := depth_rowsL rs
    rw [List.map_cons, T.pys, PyData.depthAll]
    have e : PyData.depth (T.py (row r)) = 1 := rfl
    rw [e]
    omega
theorem pl_rowsL (rs : List Row) : PlL (rs.map row) := ⟨pls_rowsL rs, by
  have h := depth_rowsL rs
  unfold SeqAt.shaped
  simp only [PyData.canLay0, PyData.depth, lay_rowsL, Bool.true_and]
  exact decide_eq_true (by omega)⟩
theorem eqv_L (xs : List T) : PyData.eqv (.list (T.pys xs)) (.list (T.pys xs)) = true := by
  rw [PyData.eqv]
  exact eqvs_self xs
theorem ev_neLL {K : PySem.W.Frag} {Γ : List D} {ta tb : TE} {rs : List Row} (ha : EvL K ta Γ (rs.map row)) (hb : EvL K tb Γ (rs.map row)) : Ev K (tOp (rNeD K) ta tb) Γ (.bl false) :=
  ev_eq (ev_neL (pl_rowsL rs) (pl_rowsL rs) ha hb) (by rw [eqv_L]; rfl)
/-! ### the rows that the law makes -/
/-! ### rows that are folded -/
end Cz

local macro_rules | `(tactic| walk_at "sm") => `(tactic| first
  | assumption
  | (apply Cz.Row.sm.x; walk_at "sm") | (apply Cz.Row.sm.y; walk_at "sm") | (apply Cz.Row.sm.z; walk_at "sm")
  | (apply Cz.Mat.sm.a; walk_at "sm") | (apply Cz.Mat.sm.b; walk_at "sm") | (apply Cz.Mat.sm.c; walk_at "sm")
  | (apply Kx.smdiv; walk_at "sm") | (apply Cz.sm_dot <;> walk_at "sm") | (apply Cz.sm_cross <;> walk_at "sm") | (apply Cz.sm_image <;> walk_at "sm") | (apply Cz.sm_tr; walk_at "sm") | (apply Cz.sm_mul <;> walk_at "sm") | (apply Cz.sm_det; walk_at "sm") | (apply Cz.sm_adj; walk_at "sm")
  | (apply Cz.Sm.mul <;> walk_at "sm") | (apply Cz.Sm.add' <;> walk_at "sm") | (apply Cz.Sm.sub' <;> walk_at "sm") | (apply Cz.Sm.neg; walk_at "sm")
  | (apply Cz.Sm.emod (n := 24) <;> decide) | exact Cz.Sm.bit | (apply Cz.Sm.abs; walk_at "sm")
  | exact Cz.Sm.of 128 (by decide))
local macro_rules | `(tactic| walk_at "smk") => `(tactic| (apply Cz.Sm.mulok; (walk_at "sm"); (walk_at "sm"); (first | decide | omega)))

namespace Kx
open PySem PyProof.Rows L2 Cz
def topS (i : Nat) : Stmt := PySem.Challenge.pw_coneroom_k20_forms_without_roots.main.body.getD i (.Pass ⟨0, 0, 0, 0⟩)
abbrev s_dot : Stmt := topS 19
abbrev s_cross : Stmt := topS 20
abbrev s_transposed : Stmt := topS 21
abbrev s_image : Stmt := topS 22
abbrev s_determinant_of : Stmt := topS 23
abbrev s_adjugate_of : Stmt := topS 24
abbrev s_is_whole : Stmt := topS 10
abbrev s_is_within : Stmt := topS 11
abbrev s_is_item : Stmt := topS 57
abbrev s_is_below_zero : Stmt := topS 58
abbrev s_check_form : Stmt := topS 59
abbrev s_last_of : Stmt := topS 60
abbrev s_Form__init_ : Stmt := inClass (topS 61) 0
abbrev s_Form_product : Stmt := inClass (topS 61) 1
abbrev s_Form_norm : Stmt := inClass (topS 61) 2
abbrev s_shifted : Stmt := topS 18
abbrev s_scaled : Stmt := topS 17
abbrev s_divided : Stmt := topS 26
abbrev s_check_base : Stmt := topS 13
abbrev s_law_cell : Stmt := topS 65
abbrev s_law_mixed : Stmt := topS 66
abbrev s_law_digits : Stmt := topS 67
abbrev s_law_product : Stmt := topS 69
abbrev s_law_image : Stmt := topS 70
abbrev s_law_units : Stmt := topS 68
abbrev s_law_moves : Stmt := topS 71
abbrev s_parted : Stmt := topS 27
abbrev s_narrowed : Stmt := topS 28
abbrev s_shortened : Stmt := topS 29
abbrev s_points_on : Stmt := topS 30
abbrev s_Layers__init_ : Stmt := inClass (topS 31) 0
abbrev s_Layers_rows_with : Stmt := inClass (topS 31) 1
abbrev s_is_bare : Stmt := topS 35
abbrev s_kinds : Stmt := topS 34
abbrev s_is_outward : Stmt := topS 39
abbrev s_layers_of_kind : Stmt := topS 37
abbrev s_roots_of_layer : Stmt := topS 38
abbrev s_outward_roots : Stmt := topS 48
abbrev s_outermost : Stmt := topS 49
abbrev s_walls_among : Stmt := topS 50
abbrev s_check_within : Stmt := topS 14
abbrev s_Room__init_ : Stmt := inClass (topS 53) 0
abbrev s_Room_walls : Stmt := inClass (topS 53) 1
abbrev s_Room_reach : Stmt := inClass (topS 53) 2
abbrev s_walls_to : Stmt := topS 51
abbrev s_meeting : Stmt := topS 40
abbrev s_neighbours_of : Stmt := topS 42
abbrev s_way_round : Stmt := topS 43
abbrev s_ring_of : Stmt := topS 44
abbrev s_makes_ring : Stmt := topS 45
abbrev s_check_depth : Stmt := topS 52
abbrev s_is_row : Stmt := topS 12
abbrev s_is_root : Stmt := topS 36
abbrev s_is_closed : Stmt := topS 63
abbrev s_Room_holds : Stmt := inClass (topS 53) 3
abbrev s_law : Stmt := topS 72
set_option genInjectivity false in
set_option genSizeOf false in
structure Txt (K : PySem.W.Frag) (mg : Str → Option Value) where
  a_dot : Addr
  fd_dot : FuncData
  F_dot : Fun K "dot" "dot" s_dot a_dot fd_dot
  g_dot : mg "dot" = some (.ref a_dot)
  b_dot : Binds K fd_dot ["first", "second"] []
  a_cross : Addr
  fd_cross : FuncData
  F_cross : Fun K "cross" "cross" s_cross a_cross fd_cross
  g_cross : mg "cross" = some (.ref a_cross)
  b_cross : Binds K fd_cross ["first", "second"] []
  a_transposed : Addr
  fd_transposed : FuncData
  F_transposed : Fun K "transposed" "transposed" s_transposed a_transposed fd_transposed
  g_transposed : mg "transposed" = some (.ref a_transposed)
  b_transposed : Binds K fd_transposed ["matrix"] []
  a_image : Addr
  fd_image : FuncData
  F_image : Fun K "image" "image" s_image a_image fd_image
  g_image : mg "image" = some (.ref a_image)
  b_image : Binds K fd_image ["matrix", "row"] []
  a_determinant_of : Addr
  fd_determinant_of : FuncData
  F_determinant_of : Fun K "determinant_of" "determinant_of" s_determinant_of a_determinant_of fd_determinant_of
  g_determinant_of : mg "determinant_of" = some (.ref a_determinant_of)
  b_determinant_of : Binds K fd_determinant_of ["matrix"] []
  a_adjugate_of : Addr
  fd_adjugate_of : FuncData
  F_adjugate_of : Fun K "adjugate_of" "adjugate_of" s_adjugate_of a_adjugate_of fd_adjugate_of
  g_adjugate_of : mg "adjugate_of" = some (.ref a_adjugate_of)
  b_adjugate_of : Binds K fd_adjugate_of ["matrix"] []
  a_is_whole : Addr
  fd_is_whole : FuncData
  F_is_whole : Fun K "is_whole" "is_whole" s_is_whole a_is_whole fd_is_whole
  g_is_whole : mg "is_whole" = some (.ref a_is_whole)
  b_is_whole : Binds K fd_is_whole ["value"] []
  a_is_within : Addr
  fd_is_within : FuncData
  F_is_within : Fun K "is_within" "is_within" s_is_within a_is_within fd_is_within
  g_is_within : mg "is_within" = some (.ref a_is_within)
  b_is_within : Binds K fd_is_within ["value", "least", "greatest"] []
  a_is_item : Addr
  fd_is_item : FuncData
  F_is_item : Fun K "is_item" "is_item" s_is_item a_is_item fd_is_item
  g_is_item : mg "is_item" = some (.ref a_is_item)
  b_is_item : Binds K fd_is_item ["value"] []
  a_is_below_zero : Addr
  fd_is_below_zero : FuncData
  F_is_below_zero : Fun K "is_below_zero" "is_below_zero" s_is_below_zero a_is_below_zero fd_is_below_zero
  g_is_below_zero : mg "is_below_zero" = some (.ref a_is_below_zero)
  b_is_below_zero : Binds K fd_is_below_zero ["table"] []
  a_check_form : Addr
  fd_check_form : FuncData
  F_check_form : Fun K "check_form" "check_form" s_check_form a_check_form fd_check_form
  g_check_form : mg "check_form" = some (.ref a_check_form)
  b_check_form : Binds K fd_check_form ["table"] []
  a_last_of : Addr
  fd_last_of : FuncData
  F_last_of : Fun K "last_of" "last_of" s_last_of a_last_of fd_last_of
  g_last_of : mg "last_of" = some (.ref a_last_of)
  b_last_of : Binds K fd_last_of ["table"] []
  a_Form__init_ : Addr
  fd_Form__init_ : FuncData
  F_Form__init_ : Fun K "__init__" "Form.__init__" s_Form__init_ a_Form__init_ fd_Form__init_
  b_Form__init_ : Binds K fd_Form__init_ ["self", "table"] []
  a_Form_product : Addr
  fd_Form_product : FuncData
  F_Form_product : Fun K "product" "Form.product" s_Form_product a_Form_product fd_Form_product
  b_Form_product : Binds K fd_Form_product ["self", "v", "w"] []
  a_Form_norm : Addr
  fd_Form_norm : FuncData
  F_Form_norm : Fun K "norm" "Form.norm" s_Form_norm a_Form_norm fd_Form_norm
  b_Form_norm : Binds K fd_Form_norm ["self", "v"] []
  a_shifted : Addr
  fd_shifted : FuncData
  F_shifted : Fun K "shifted" "shifted" s_shifted a_shifted fd_shifted
  g_shifted : mg "shifted" = some (.ref a_shifted)
  b_shifted : Binds K fd_shifted ["row", "step", "times"] []
  a_scaled : Addr
  fd_scaled : FuncData
  F_scaled : Fun K "scaled" "scaled" s_scaled a_scaled fd_scaled
  g_scaled : mg "scaled" = some (.ref a_scaled)
  b_scaled : Binds K fd_scaled ["row", "times"] []
  a_divided : Addr
  fd_divided : FuncData
  F_divided : Fun K "divided" "divided" s_divided a_divided fd_divided
  g_divided : mg "divided" = some (.ref a_divided)
  b_divided : Binds K fd_divided ["first", "second"] []
  a_check_base : Addr
  fd_check_base : FuncData
  F_check_base : Fun K "check_base" "check_base" s_check_base a_check_base fd_check_base
  g_check_base : mg "check_base" = some (.ref a_check_base)
  b_check_base : Binds K fd_check_base ["form", "p"] []
  a_law_cell : Addr
  fd_law_cell : FuncData
  F_law_cell : Fun K "_law_cell" "_law_cell" s_law_cell a_law_cell fd_law_cell
  g_law_cell : mg "_law_cell" = some (.ref a_law_cell)
  b_law_cell : Binds K fd_law_cell ["script", "k"] []
  a_law_mixed : Addr
  fd_law_mixed : FuncData
  F_law_mixed : Fun K "_law_mixed" "_law_mixed" s_law_mixed a_law_mixed fd_law_mixed
  g_law_mixed : mg "_law_mixed" = some (.ref a_law_mixed)
  b_law_mixed : Binds K fd_law_mixed ["cell", "k"] []
  a_law_digits : Addr
  fd_law_digits : FuncData
  F_law_digits : Fun K "_law_digits" "_law_digits" s_law_digits a_law_digits fd_law_digits
  g_law_digits : mg "_law_digits" = some (.ref a_law_digits)
  b_law_digits : Binds K fd_law_digits ["cell", "count", "many"] []
  a_law_product : Addr
  fd_law_product : FuncData
  F_law_product : Fun K "_law_product" "_law_product" s_law_product a_law_product fd_law_product
  g_law_product : mg "_law_product" = some (.ref a_law_product)
  b_law_product : Binds K fd_law_product ["table", "v", "w"] []
  a_law_image : Addr
  fd_law_image : FuncData
  F_law_image : Fun K "_law_image" "_law_image" s_law_image a_law_image fd_law_image
  g_law_image : mg "_law_image" = some (.ref a_law_image)
  b_law_image : Binds K fd_law_image ["matrix", "row"] []
  a_law_units : Addr
  fd_law_units : FuncData
  F_law_units : Fun K "_law_units" "_law_units" s_law_units a_law_units fd_law_units
  g_law_units : mg "_law_units" = some (.ref a_law_units)
  b_law_units : Binds K fd_law_units [] []
  a_law_moves : Addr
  fd_law_moves : FuncData
  F_law_moves : Fun K "_law_moves" "_law_moves" s_law_moves a_law_moves fd_law_moves
  g_law_moves : mg "_law_moves" = some (.ref a_law_moves)
  b_law_moves : Binds K fd_law_moves ["digits"] []
  a_parted : Addr
  fd_parted : FuncData
  F_parted : Fun K "parted" "parted" s_parted a_parted fd_parted
  g_parted : mg "parted" = some (.ref a_parted)
  b_parted : Binds K fd_parted ["rows", "line"] []
  a_narrowed : Addr
  fd_narrowed : FuncData
  F_narrowed : Fun K "narrowed" "narrowed" s_narrowed a_narrowed fd_narrowed
  g_narrowed : mg "narrowed" = some (.ref a_narrowed)
  b_narrowed : Binds K fd_narrowed ["rows", "line", "number"] []
  a_shortened : Addr
  fd_shortened : FuncData
  F_shortened : Fun K "shortened" "shortened" s_shortened a_shortened fd_shortened
  g_shortened : mg "shortened" = some (.ref a_shortened)
  b_shortened : Binds K fd_shortened ["form", "first", "second"] []
  a_points_on : Addr
  fd_points_on : FuncData
  F_points_on : Fun K "points_on" "points_on" s_points_on a_points_on fd_points_on
  g_points_on : mg "points_on" = some (.ref a_points_on)
  b_points_on : Binds K fd_points_on ["a", "b", "c", "d", "e", "f"] []
  a_Layers__init_ : Addr
  fd_Layers__init_ : FuncData
  F_Layers__init_ : Fun K "__init__" "Layers.__init__" s_Layers__init_ a_Layers__init_ fd_Layers__init_
  b_Layers__init_ : Binds K fd_Layers__init_ ["self", "form", "p", "rows"] []
  a_Layers_rows_with : Addr
  fd_Layers_rows_with : FuncData
  F_Layers_rows_with : Fun K "rows_with" "Layers.rows_with" s_Layers_rows_with a_Layers_rows_with fd_Layers_rows_with
  b_Layers_rows_with : Binds K fd_Layers_rows_with ["self", "a", "n"] []
  a_is_bare : Addr
  fd_is_bare : FuncData
  F_is_bare : Fun K "is_bare" "is_bare" s_is_bare a_is_bare fd_is_bare
  g_is_bare : mg "is_bare" = some (.ref a_is_bare)
  b_is_bare : Binds K fd_is_bare ["row"] []
  a_kinds : Addr
  fd_kinds : FuncData
  F_kinds : Fun K "kinds" "kinds" s_kinds a_kinds fd_kinds
  g_kinds : mg "kinds" = some (.ref a_kinds)
  b_kinds : Binds K fd_kinds ["form"] []
  a_is_outward : Addr
  fd_is_outward : FuncData
  F_is_outward : Fun K "is_outward" "is_outward" s_is_outward a_is_outward fd_is_outward
  g_is_outward : mg "is_outward" = some (.ref a_is_outward)
  b_is_outward : Binds K fd_is_outward ["form", "p", "r"] []
  a_layers_of_kind : Addr
  fd_layers_of_kind : FuncData
  F_layers_of_kind : Fun K "layers_of_kind" "layers_of_kind" s_layers_of_kind a_layers_of_kind fd_layers_of_kind
  g_layers_of_kind : mg "layers_of_kind" = some (.ref a_layers_of_kind)
  b_layers_of_kind : Binds K fd_layers_of_kind ["form", "p", "norm"] []
  a_roots_of_layer : Addr
  fd_roots_of_layer : FuncData
  F_roots_of_layer : Fun K "roots_of_layer" "roots_of_layer" s_roots_of_layer a_roots_of_layer fd_roots_of_layer
  g_roots_of_layer : mg "roots_of_layer" = some (.ref a_roots_of_layer)
  b_roots_of_layer : Binds K fd_roots_of_layer ["layers", "a", "norm"] []
  a_outward_roots : Addr
  fd_outward_roots : FuncData
  F_outward_roots : Fun K "outward_roots" "outward_roots" s_outward_roots a_outward_roots fd_outward_roots
  g_outward_roots : mg "outward_roots" = some (.ref a_outward_roots)
  b_outward_roots : Binds K fd_outward_roots ["form", "p", "bound"] []
  a_outermost : Addr
  fd_outermost : FuncData
  F_outermost : Fun K "outermost" "outermost" s_outermost a_outermost fd_outermost
  g_outermost : mg "outermost" = some (.ref a_outermost)
  b_outermost : Binds K fd_outermost ["p", "roots"] []
  a_walls_among : Addr
  fd_walls_among : FuncData
  F_walls_among : Fun K "walls_among" "walls_among" s_walls_among a_walls_among fd_walls_among
  g_walls_among : mg "walls_among" = some (.ref a_walls_among)
  b_walls_among : Binds K fd_walls_among ["form", "p", "pairs"] []
  a_check_within : Addr
  fd_check_within : FuncData
  F_check_within : Fun K "check_within" "check_within" s_check_within a_check_within fd_check_within
  g_check_within : mg "check_within" = some (.ref a_check_within)
  b_check_within : Binds K fd_check_within ["value", "least", "greatest"] []
  a_Room__init_ : Addr
  fd_Room__init_ : FuncData
  F_Room__init_ : Fun K "__init__" "Room.__init__" s_Room__init_ a_Room__init_ fd_Room__init_
  b_Room__init_ : Binds K fd_Room__init_ ["self", "form", "p"] []
  a_Room_walls : Addr
  fd_Room_walls : FuncData
  F_Room_walls : Fun K "walls" "Room.walls" s_Room_walls a_Room_walls fd_Room_walls
  b_Room_walls : Binds K fd_Room_walls ["self", "bound"] []
  a_Room_reach : Addr
  fd_Room_reach : FuncData
  F_Room_reach : Fun K "reach" "Room.reach" s_Room_reach a_Room_reach fd_Room_reach
  b_Room_reach : Binds K fd_Room_reach ["self", "v"] []
  a_walls_to : Addr
  fd_walls_to : FuncData
  F_walls_to : Fun K "walls_to" "walls_to" s_walls_to a_walls_to fd_walls_to
  g_walls_to : mg "walls_to" = some (.ref a_walls_to)
  b_walls_to : Binds K fd_walls_to ["room", "depth"] []
  a_meeting : Addr
  fd_meeting : FuncData
  F_meeting : Fun K "meeting" "meeting" s_meeting a_meeting fd_meeting
  g_meeting : mg "meeting" = some (.ref a_meeting)
  b_meeting : Binds K fd_meeting ["form", "r", "s"] []
  a_neighbours_of : Addr
  fd_neighbours_of : FuncData
  F_neighbours_of : Fun K "neighbours_of" "neighbours_of" s_neighbours_of a_neighbours_of fd_neighbours_of
  g_neighbours_of : mg "neighbours_of" = some (.ref a_neighbours_of)
  b_neighbours_of : Binds K fd_neighbours_of ["form", "walls", "r"] []
  a_way_round : Addr
  fd_way_round : FuncData
  F_way_round : Fun K "way_round" "way_round" s_way_round a_way_round fd_way_round
  g_way_round : mg "way_round" = some (.ref a_way_round)
  b_way_round : Binds K fd_way_round ["near", "start"] []
  a_ring_of : Addr
  fd_ring_of : FuncData
  F_ring_of : Fun K "ring_of" "ring_of" s_ring_of a_ring_of fd_ring_of
  g_ring_of : mg "ring_of" = some (.ref a_ring_of)
  b_ring_of : Binds K fd_ring_of ["form", "walls"] []
  a_makes_ring : Addr
  fd_makes_ring : FuncData
  F_makes_ring : Fun K "makes_ring" "makes_ring" s_makes_ring a_makes_ring fd_makes_ring
  g_makes_ring : mg "makes_ring" = some (.ref a_makes_ring)
  b_makes_ring : Binds K fd_makes_ring ["form", "walls"] []
  a_check_depth : Addr
  fd_check_depth : FuncData
  F_check_depth : Fun K "check_depth" "check_depth" s_check_depth a_check_depth fd_check_depth
  g_check_depth : mg "check_depth" = some (.ref a_check_depth)
  b_check_depth : Binds K fd_check_depth ["form", "walls", "depth"] []
  a_is_row : Addr
  fd_is_row : FuncData
  F_is_row : Fun K "is_row" "is_row" s_is_row a_is_row fd_is_row
  g_is_row : mg "is_row" = some (.ref a_is_row)
  b_is_row : Binds K fd_is_row ["value"] []
  a_is_root : Addr
  fd_is_root : FuncData
  F_is_root : Fun K "is_root" "is_root" s_is_root a_is_root fd_is_root
  g_is_root : mg "is_root" = some (.ref a_is_root)
  b_is_root : Binds K fd_is_root ["form", "value"] []
  a_is_closed : Addr
  fd_is_closed : FuncData
  F_is_closed : Fun K "is_closed" "is_closed" s_is_closed a_is_closed fd_is_closed
  g_is_closed : mg "is_closed" = some (.ref a_is_closed)
  b_is_closed : Binds K fd_is_closed ["room", "bound"] []
  a_Room_holds : Addr
  fd_Room_holds : FuncData
  F_Room_holds : Fun K "holds" "Room.holds" s_Room_holds a_Room_holds fd_Room_holds
  b_Room_holds : Binds K fd_Room_holds ["self", "v"] []
  z_isinstance : mg "isinstance" = none
  z_bool : mg "bool" = none
  z_int : mg "int" = none
  z_all : mg "all" = none
  z_abs : mg "abs" = none
  z_len : mg "len" = none
  z_range : mg "range" = none
  z_tuple : mg "tuple" = none
  z_list : mg "list" = none
  z_sorted : mg "sorted" = none
  z_min : mg "min" = none
  z_any : mg "any" = none
  C_BadForm : Addr
  g_BadForm : mg "BadForm" = some (.ref C_BadForm)
  x_BadForm : PySem.W.excIn K C_BadForm [.type "ValueError", .type "Exception", .type "BaseException", .type "object"] "ValueError.__new__" = true
  k_BadForm : PySem.W.keepIn K (.ref C_BadForm) = true
  b_BadForm : PySem.W.subIn K (.ref C_BadForm) (.type "BaseException") = some true
  t_BadForm : PySem.W.typeIn K (.ref C_BadForm) = some (.type "type")
  h_BadForm : PySem.W.hasDictIn K C_BadForm = true
  C_BadBase : Addr
  g_BadBase : mg "BadBase" = some (.ref C_BadBase)
  x_BadBase : PySem.W.excIn K C_BadBase [.type "ValueError", .type "Exception", .type "BaseException", .type "object"] "ValueError.__new__" = true
  k_BadBase : PySem.W.keepIn K (.ref C_BadBase) = true
  b_BadBase : PySem.W.subIn K (.ref C_BadBase) (.type "BaseException") = some true
  t_BadBase : PySem.W.typeIn K (.ref C_BadBase) = some (.type "type")
  h_BadBase : PySem.W.hasDictIn K C_BadBase = true
  C_BadNumber : Addr
  g_BadNumber : mg "BadNumber" = some (.ref C_BadNumber)
  x_BadNumber : PySem.W.excIn K C_BadNumber [.type "ValueError", .type "Exception", .type "BaseException", .type "object"] "ValueError.__new__" = true
  k_BadNumber : PySem.W.keepIn K (.ref C_BadNumber) = true
  b_BadNumber : PySem.W.subIn K (.ref C_BadNumber) (.type "BaseException") = some true
  t_BadNumber : PySem.W.typeIn K (.ref C_BadNumber) = some (.type "type")
  h_BadNumber : PySem.W.hasDictIn K C_BadNumber = true
  C_BadRow : Addr
  g_BadRow : mg "BadRow" = some (.ref C_BadRow)
  x_BadRow : PySem.W.excIn K C_BadRow [.type "ValueError", .type "Exception", .type "BaseException", .type "object"] "ValueError.__new__" = true
  k_BadRow : PySem.W.keepIn K (.ref C_BadRow) = true
  b_BadRow : PySem.W.subIn K (.ref C_BadRow) (.type "BaseException") = some true
  t_BadRow : PySem.W.typeIn K (.ref C_BadRow) = some (.type "type")
  h_BadRow : PySem.W.hasDictIn K C_BadRow = true
  C_TooFar : Addr
  g_TooFar : mg "TooFar" = some (.ref C_TooFar)
  x_TooFar : PySem.W.excIn K C_TooFar [.type "ValueError", .type "Exception", .type "BaseException", .type "object"] "ValueError.__new__" = true
  k_TooFar : PySem.W.keepIn K (.ref C_TooFar) = true
  b_TooFar : PySem.W.subIn K (.ref C_TooFar) (.type "BaseException") = some true
  t_TooFar : PySem.W.typeIn K (.ref C_TooFar) = some (.type "type")
  h_TooFar : PySem.W.hasDictIn K C_TooFar = true
  v_GREATEST_ITEM : Tok
  c_GREATEST_ITEM : mg "GREATEST_ITEM" = some (.int (1000) v_GREATEST_ITEM)
  v_LEAST_DETERMINANT : Tok
  c_LEAST_DETERMINANT : mg "LEAST_DETERMINANT" = some (.int (-500) v_LEAST_DETERMINANT)
  v_GREATEST_BOUND : Tok
  c_GREATEST_BOUND : mg "GREATEST_BOUND" = some (.int (500) v_GREATEST_BOUND)
  a_TURNS : Addr
  g_TURNS : mg "TURNS" = some (.ref a_TURNS)
  d_TURNS : KDict K a_TURNS turnT
  a_UNIT_ROWS : Addr
  g_UNIT_ROWS : mg "UNIT_ROWS" = some (.ref a_UNIT_ROWS)
  u_UNIT_ROWS : ∀ H, Rp K H (.ref a_UNIT_ROWS) (mat ⟨⟨1, 0, 0⟩, ⟨0, 1, 0⟩, ⟨0, 0, 1⟩⟩)
  z_gcd : mg "gcd" = some (.builtin "math.gcd")
  z_isqrt : mg "isqrt" = some (.builtin "math.isqrt")
  C_Form : Addr
  g_Form : mg "Form" = some (.ref C_Form)
  c_Form : Cls K C_Form
  n_Form_table : NoAttr K C_Form "table"
  n_Form_determinant : NoAttr K C_Form "determinant"
  n_Form_last : NoAttr K C_Form "last"
  M_Form : Mk K C_Form a_Form__init_
  m_Form_product : Meth K C_Form "product" a_Form_product
  m_Form_norm : Meth K C_Form "norm" a_Form_norm
  C_Layers : Addr
  g_Layers : mg "Layers" = some (.ref C_Layers)
  c_Layers : Cls K C_Layers
  n_Layers_form : NoAttr K C_Layers "form"
  n_Layers_step : NoAttr K C_Layers "step"
  n_Layers_top : NoAttr K C_Layers "top"
  n_Layers_short : NoAttr K C_Layers "short"
  n_Layers_long : NoAttr K C_Layers "long"
  M_Layers : Mk K C_Layers a_Layers__init_
  m_Layers_rows_with : Meth K C_Layers "rows_with" a_Layers_rows_with
  C_Room : Addr
  g_Room : mg "Room" = some (.ref C_Room)
  c_Room : Cls K C_Room
  n_Room_form : NoAttr K C_Room "form"
  n_Room_base : NoAttr K C_Room "base"
  M_Room : Mk K C_Room a_Room__init_
  m_Room_walls : Meth K C_Room "walls" a_Room_walls
  m_Room_reach : Meth K C_Room "reach" a_Room_reach
  m_Room_holds : Meth K C_Room "holds" a_Room_holds
section
variable {P : Program} {w : World} {K : PySem.W.Frag} {mg : Str → Option Value} {base : Heap}
theorem sc_dot : FnScope ["first", "second"] ["first", "second"] (defScope s_dot) := ⟨rfl, rfl, rfl, by decide +kernel, rfl, by decide +kernel, by decide +kernel⟩
def R_dot : List D → D → Prop := fun ds r => ∃ (u v : Row) (n k : Nat), ds = [.t (row u), .t (row v)] ∧ r = .t (.int (dot u v)) ∧ u.sm n ∧ v.sm k ∧ n ≤ 100000 ∧ k ≤ 100000
theorem ok_dot (T : Txt K mg) : FnOk P w K mg base CX0 1 T.a_dot T.fd_dot ["first", "second"] (spD K R_dot) := by
  refine fn_d T.F_dot sc_dot (fun ds r h => ?_) (fun cdv A outer s H E hr => ?_)
  · obtain ⟨u, v, n, k, rfl, _⟩ := h
    rfl
  · have hu := hr.units
    skip
    refine ⟨_, (pss_one (ps_ret (pe_op op_add (pe_op op_add (pe_op op_mulW (pk_ixT K (pv 0) pe_int (fun _ _ => rfl)) (pk_ixT K (pv 1) pe_int (fun _ _ => rfl))) (pe_op op_mulW (pk_ixT K (pv 0) pe_int (fun _ _ => rfl)) (pk_ixT K (pv 1) pe_int (fun _ _ => rfl)))) (pe_op op_mulW (pk_ixT K (pv 0) pe_int (fun _ _ => rfl)) (pk_ixT K (pv 1) pe_int (fun _ _ => rfl)))))), fun ds r h => ?_⟩
    obtain ⟨u, v, n, k, rfl, rfl, hc⟩ := h
    obtain ⟨hm, hk, hn, hn2⟩ := hc
    show Sv K W0 _ [D.t (row u), D.t (row v), ] _
    refine (sv_ret (ev_add (ev_add (ev_mul (ev_ixT (ev_var rfl) ev_int (by rfl)) (ev_ixT (ev_var rfl) ev_int (by rfl)) (by walk_at "smk")) (ev_mul (ev_ixT (ev_var rfl) ev_int (by rfl)) (ev_ixT (ev_var rfl) ev_int (by rfl)) (by walk_at "smk"))) (ev_mul (ev_ixT (ev_var rfl) ev_int (by rfl)) (ev_ixT (ev_var rfl) ev_int (by rfl)) (by walk_at "smk"))) ?_)
    rfl
local macro_rules | `(tactic| walk_at "R_dot") => `(tactic| exact ⟨_, _, _, _, rfl, rfl, by walk_at "sm", by walk_at "sm", by first | decide | omega, by first | decide | omega⟩)
theorem sc_cross : FnScope ["first", "second"] ["first", "second"] (defScope s_cross) := ⟨rfl, rfl, rfl, by decide +kernel, rfl, by decide +kernel, by decide +kernel⟩
def R_cross : List D → D → Prop := fun ds r => ∃ (u v : Row) (n k : Nat), ds = [.t (row u), .t (row v)] ∧ r = .t (row (cross u v)) ∧ u.sm n ∧ v.sm k ∧ n ≤ 100000 ∧ k ≤ 100000
theorem ok_cross (T : Txt K mg) : FnOk P w K mg base CX0 1 T.a_cross T.fd_cross ["first", "second"] (spD K R_cross) := by
  refine fn_d T.F_cross sc_cross (fun ds r h => ?_) (fun cdv A outer s H E hr => ?_)
  · obtain ⟨u, v, n, k, rfl, _⟩ := h
    rfl
  · have hu := hr.units
    skip
    refine ⟨_, (pss_one (ps_ret (pe_tup (pa_cons (pe_op op_sub (pe_op op_mulW (pk_ixT K (pv 0) pe_int (fun _ _ => rfl)) (pk_ixT K (pv 1) pe_int (fun _ _ => rfl))) (pe_op op_mulW (pk_ixT K (pv 0) pe_int (fun _ _ => rfl)) (pk_ixT K (pv 1) pe_int (fun _ _ => rfl)))) (pa_cons (pe_op op_sub (pe_op op_mulW (pk_ixT K (pv 0) pe_int (fun _ _ => rfl)) (pk_ixT K (pv 1) pe_int (fun _ _ => rfl))) (pe_op op_mulW (pk_ixT K (pv 0) pe_int (fun _ _ => rfl)) (pk_ixT K (pv 1) pe_int (fun _ _ => rfl)))) (pa_cons (pe_op op_sub (pe_op op_mulW (pk_ixT K (pv 0) pe_int (fun _ _ => rfl)) (pk_ixT K (pv 1) pe_int (fun _ _ => rfl))) (pe_op op_mulW (pk_ixT K (pv 0) pe_int (fun _ _ => rfl)) (pk_ixT K (pv 1) pe_int (fun _ _ => rfl)))) pa_nil)))))), fun ds r h => ?_⟩
    obtain ⟨u, v, n, k, rfl, rfl, hc⟩ := h
    obtain ⟨hm, hk, hn, hn2⟩ := hc
    show Sv K W0 _ [D.t (row u), D.t (row v), ] _
    refine (sv_ret (ev_row (ev_sub (ev_mul (ev_ixT (ev_var rfl) ev_int (by rfl)) (ev_ixT (ev_var rfl) ev_int (by rfl)) (by walk_at "smk")) (ev_mul (ev_ixT (ev_var rfl) ev_int (by rfl)) (ev_ixT (ev_var rfl) ev_int (by rfl)) (by walk_at "smk"))) (ev_sub (ev_mul (ev_ixT (ev_var rfl) ev_int (by rfl)) (ev_ixT (ev_var rfl) ev_int (by rfl)) (by walk_at "smk")) (ev_mul (ev_ixT (ev_var rfl) ev_int (by rfl)) (ev_ixT (ev_var rfl) ev_int (by rfl)) (by walk_at "smk"))) (ev_sub (ev_mul (ev_ixT (ev_var rfl) ev_int (by rfl)) (ev_ixT (ev_var rfl) ev_int (by rfl)) (by walk_at "smk")) (ev_mul (ev_ixT (ev_var rfl) ev_int (by rfl)) (ev_ixT (ev_var rfl) ev_int (by rfl)) (by walk_at "smk")))) ?_)
    rfl
local macro_rules | `(tactic| walk_at "R_cross") => `(tactic| exact ⟨_, _, _, _, rfl, rfl, by walk_at "sm", by walk_at "sm", by first | decide | omega, by first | decide | omega⟩)
theorem sc_transposed : FnScope ["matrix", "first", "second", "third"] ["matrix"] (defScope s_transposed) := ⟨rfl, rfl, rfl, by decide +kernel, rfl, by decide +kernel, by decide +kernel⟩
def R_transposed : List D → D → Prop := fun ds r => ∃ (m : Mat), ds = [.t (mat m)] ∧ r = .t (mat m.tr) ∧ True
theorem ok_transposed (T : Txt K mg) : FnOk P w K mg base CX0 1 T.a_transposed T.fd_transposed ["matrix"] (spD K R_transposed) := by
  refine fn_d T.F_transposed sc_transposed (fun ds r h => ?_) (fun cdv A outer s H E hr => ?_)
  · obtain ⟨m, rfl, _⟩ := h
    rfl
  · have hu := hr.units
    skip
    refine ⟨_, (pss_cons (ps_asg (pv 0) (pgk_tup K rfl (pgs_cons (pg_name (i := 1) sc_transposed.nd rfl (by first | exact Or.inl rfl | exact Or.inr rfl)) (pgs_cons (pg_name (i := 2) sc_transposed.nd rfl (by first | exact Or.inl rfl | exact Or.inr rfl)) (pgs_cons (pg_name (i := 3) sc_transposed.nd rfl (by first | exact Or.inl rfl | exact Or.inr rfl)) pgs_nil)))))
    (pss_one (ps_ret (pe_tup (pa_cons (pe_tup (pa_cons (pk_ixT K (pv 1) pe_int (fun _ _ => rfl)) (pa_cons (pk_ixT K (pv 2) pe_int (fun _ _ => rfl)) (pa_cons (pk_ixT K (pv 3) pe_int (fun _ _ => rfl)) pa_nil)))) (pa_cons (pe_tup (pa_cons (pk_ixT K (pv 1) pe_int (fun _ _ => rfl)) (pa_cons (pk_ixT K (pv 2) pe_int (fun _ _ => rfl)) (pa_cons (pk_ixT K (pv 3) pe_int (fun _ _ => rfl)) pa_nil)))) (pa_cons (pe_tup (pa_cons (pk_ixT K (pv 1) pe_int (fun _ _ => rfl)) (pa_cons (pk_ixT K (pv 2) pe_int (fun _ _ => rfl)) (pa_cons (pk_ixT K (pv 3) pe_int (fun _ _ => rfl)) pa_nil)))) pa_nil))))))), fun ds r h => ?_⟩
    obtain ⟨m, rfl, rfl, hc⟩ := h

    show Sv K W0 _ [D.t (mat m), D.no, D.no, D.no] _
    refine (sv_then _ (sv_asg (ev_var rfl) (gd_tup rfl (gds_cons (gd_name _ _) (gds_cons (gd_name _ _) (gds_cons (gd_name _ _) gds_nil)))) rfl)
    (sv_ret (ev_mat (ev_row (ev_ixT (ev_var rfl) ev_int (by rfl)) (ev_ixT (ev_var rfl) ev_int (by rfl)) (ev_ixT (ev_var rfl) ev_int (by rfl))) (ev_row (ev_ixT (ev_var rfl) ev_int (by rfl)) (ev_ixT (ev_var rfl) ev_int (by rfl)) (ev_ixT (ev_var rfl) ev_int (by rfl))) (ev_row (ev_ixT (ev_var rfl) ev_int (by rfl)) (ev_ixT (ev_var rfl) ev_int (by rfl)) (ev_ixT (ev_var rfl) ev_int (by rfl)))) ?_))
    rfl
local macro_rules | `(tactic| walk_at "R_transposed") => `(tactic| exact ⟨_, rfl, rfl, trivial⟩)
theorem sc_image : FnScope ["matrix", "row"] ["matrix", "row"] (defScope s_image) := ⟨rfl, rfl, rfl, by decide +kernel, rfl, by decide +kernel, by decide +kernel⟩
def R_image : List D → D → Prop := fun ds r => ∃ (m : Mat) (v : Row) (n k : Nat), ds = [.t (mat m), .t (row v)] ∧ r = .t (row (image m v)) ∧ m.sm n ∧ v.sm k ∧ n ≤ 90000 ∧ k ≤ 90000
theorem ok_image (T : Txt K mg) : FnOk P w K mg base CX0 2 T.a_image T.fd_image ["matrix", "row"] (spD K R_image) := by
  refine fn_d T.F_image sc_image (fun ds r h => ?_) (fun cdv A outer s H E hr => ?_)
  · obtain ⟨m, v, n, k, rfl, _⟩ := h
    rfl
  · have hu := hr.units
    have G_dot : FnOk P w K mg base CX0 1 T.a_dot T.fd_dot ["first", "second"] (spD K R_dot) := ok_dot T
    refine ⟨_, (pss_one (ps_ret (pe_tup (pa_cons (pe_call G_dot (hr.mono (by decide)) (by rfl) T.g_dot T.F_dot.kp T.b_dot .nil pass0 (pa_cons (pk_ixT K (pv 0) pe_int (fun _ _ => rfl)) (pa_cons (pv 1) pa_nil))) (pa_cons (pe_call G_dot (hr.mono (by decide)) (by rfl) T.g_dot T.F_dot.kp T.b_dot .nil pass0 (pa_cons (pk_ixT K (pv 0) pe_int (fun _ _ => rfl)) (pa_cons (pv 1) pa_nil))) (pa_cons (pe_call G_dot (hr.mono (by decide)) (by rfl) T.g_dot T.F_dot.kp T.b_dot .nil pass0 (pa_cons (pk_ixT K (pv 0) pe_int (fun _ _ => rfl)) (pa_cons (pv 1) pa_nil))) pa_nil)))))), fun ds r h => ?_⟩
    obtain ⟨m, v, n, k, rfl, rfl, hc⟩ := h
    obtain ⟨hm, hk, hn, hn2⟩ := hc
    show Sv K W0 _ [D.t (mat m), D.t (row v), ] _
    refine (sv_ret (ev_row (ev_call (eva_t (ev_ixT (ev_var rfl) ev_int (by rfl)) (eva_t (ev_var rfl) eva_nil)) (by walk_at "R_dot")) (ev_call (eva_t (ev_ixT (ev_var rfl) ev_int (by rfl)) (eva_t (ev_var rfl) eva_nil)) (by walk_at "R_dot")) (ev_call (eva_t (ev_ixT (ev_var rfl) ev_int (by rfl)) (eva_t (ev_var rfl) eva_nil)) (by walk_at "R_dot"))) ?_)
    rfl
local macro_rules | `(tactic| walk_at "R_image") => `(tactic| exact ⟨_, _, _, _, rfl, rfl, by walk_at "sm", by walk_at "sm", by first | decide | omega, by first | decide | omega⟩)
theorem sc_determinant_of : FnScope ["matrix", "first", "second", "third"] ["matrix"] (defScope s_determinant_of) := ⟨rfl, rfl, rfl, by decide +kernel, rfl, by decide +kernel, by decide +kernel⟩
def R_determinant_of : List D → D → Prop := fun ds r => ∃ (m : Mat) (n : Nat), ds = [.t (mat m)] ∧ r = .t (.int (det m)) ∧ m.sm n ∧ n ≤ 40000
theorem ok_determinant_of (T : Txt K mg) : FnOk P w K mg base CX0 2 T.a_determinant_of T.fd_determinant_of ["matrix"] (spD K R_determinant_of) := by
  refine fn_d T.F_determinant_of sc_determinant_of (fun ds r h => ?_) (fun cdv A outer s H E hr => ?_)
  · obtain ⟨m, n, rfl, _⟩ := h
    rfl
  · have hu := hr.units
    have G_dot : FnOk P w K mg base CX0 1 T.a_dot T.fd_dot ["first", "second"] (spD K R_dot) := ok_dot T
    have G_cross : FnOk P w K mg base CX0 1 T.a_cross T.fd_cross ["first", "second"] (spD K R_cross) := ok_cross T
    refine ⟨_, (pss_cons (ps_asg (pv 0) (pgk_tup K rfl (pgs_cons (pg_name (i := 1) sc_determinant_of.nd rfl (by first | exact Or.inl rfl | exact Or.inr rfl)) (pgs_cons (pg_name (i := 2) sc_determinant_of.nd rfl (by first | exact Or.inl rfl | exact Or.inr rfl)) (pgs_cons (pg_name (i := 3) sc_determinant_of.nd rfl (by first | exact Or.inl rfl | exact Or.inr rfl)) pgs_nil)))))
    (pss_one (ps_ret (pe_call G_dot (hr.mono (by decide)) (by rfl) T.g_dot T.F_dot.kp T.b_dot .nil pass0 (pa_cons (pe_call G_cross (hr.mono (by decide)) (by rfl) T.g_cross T.F_cross.kp T.b_cross .nil pass0 (pa_cons (pv 1) (pa_cons (pv 2) pa_nil))) (pa_cons (pv 3) pa_nil)))))), fun ds r h => ?_⟩
    obtain ⟨m, n, rfl, rfl, hc⟩ := h
    obtain ⟨hm, hn⟩ := hc
    show Sv K W0 _ [D.t (mat m), D.no, D.no, D.no] _
    refine (sv_then _ (sv_asg (ev_var rfl) (gd_tup rfl (gds_cons (gd_name _ _) (gds_cons (gd_name _ _) (gds_cons (gd_name _ _) gds_nil)))) rfl)
    (sv_ret (ev_call (eva_t (ev_call (eva_t (ev_var rfl) (eva_t (ev_var rfl) eva_nil)) (by walk_at "R_cross")) (eva_t (ev_var rfl) eva_nil)) (by walk_at "R_dot")) ?_))
    rfl
local macro_rules | `(tactic| walk_at "R_determinant_of") => `(tactic| exact ⟨_, _, rfl, rfl, by walk_at "sm", by first | decide | omega⟩)
theorem sc_adjugate_of : FnScope ["matrix", "first", "second", "third"] ["matrix"] (defScope s_adjugate_of) := ⟨rfl, rfl, rfl, by decide +kernel, rfl, by decide +kernel, by decide +kernel⟩
def R_adjugate_of : List D → D → Prop := fun ds r => ∃ (m : Mat) (n : Nat), ds = [.t (mat m)] ∧ r = .t (mat (adj m)) ∧ m.sm n ∧ n ≤ 40000
theorem ok_adjugate_of (T : Txt K mg) : FnOk P w K mg base CX0 2 T.a_adjugate_of T.fd_adjugate_of ["matrix"] (spD K R_adjugate_of) := by
  refine fn_d T.F_adjugate_of sc_adjugate_of (fun ds r h => ?_) (fun cdv A outer s H E hr => ?_)
  · obtain ⟨m, n, rfl, _⟩ := h
    rfl
  · have hu := hr.units
    have G_transposed : FnOk P w K mg base CX0 1 T.a_transposed T.fd_transposed ["matrix"] (spD K R_transposed) := ok_transposed T
    have G_cross : FnOk P w K mg base CX0 1 T.a_cross T.fd_cross ["first", "second"] (spD K R_cross) := ok_cross T
    refine ⟨_, (pss_cons (ps_asg (pv 0) (pgk_tup K rfl (pgs_cons (pg_name (i := 1) sc_adjugate_of.nd rfl (by first | exact Or.inl rfl | exact Or.inr rfl)) (pgs_cons (pg_name (i := 2) sc_adjugate_of.nd rfl (by first | exact Or.inl rfl | exact Or.inr rfl)) (pgs_cons (pg_name (i := 3) sc_adjugate_of.nd rfl (by first | exact Or.inl rfl | exact Or.inr rfl)) pgs_nil)))))
    (pss_one (ps_ret (pe_call G_transposed (hr.mono (by decide)) (by rfl) T.g_transposed T.F_transposed.kp T.b_transposed .nil pass0 (pa_cons (pe_tup (pa_cons (pe_call G_cross (hr.mono (by decide)) (by rfl) T.g_cross T.F_cross.kp T.b_cross .nil pass0 (pa_cons (pv 2) (pa_cons (pv 3) pa_nil))) (pa_cons (pe_call G_cross (hr.mono (by decide)) (by rfl) T.g_cross T.F_cross.kp T.b_cross .nil pass0 (pa_cons (pv 3) (pa_cons (pv 1) pa_nil))) (pa_cons (pe_call G_cross (hr.mono (by decide)) (by rfl) T.g_cross T.F_cross.kp T.b_cross .nil pass0 (pa_cons (pv 1) (pa_cons (pv 2) pa_nil))) pa_nil)))) pa_nil))))), fun ds r h => ?_⟩
    obtain ⟨m, n, rfl, rfl, hc⟩ := h
    obtain ⟨hm, hn⟩ := hc
    show Sv K W0 _ [D.t (mat m), D.no, D.no, D.no] _
    refine (sv_then _ (sv_asg (ev_var rfl) (gd_tup rfl (gds_cons (gd_name _ _) (gds_cons (gd_name _ _) (gds_cons (gd_name _ _) gds_nil)))) rfl)
    (sv_ret (ev_call (eva_t (ev_mat (ev_call (eva_t (ev_var rfl) (eva_t (ev_var rfl) eva_nil)) (by walk_at "R_cross")) (ev_call (eva_t (ev_var rfl) (eva_t (ev_var rfl) eva_nil)) (by walk_at "R_cross")) (ev_call (eva_t (ev_var rfl) (eva_t (ev_var rfl) eva_nil)) (by walk_at "R_cross"))) eva_nil) (by walk_at "R_transposed")) ?_))
    rfl
local macro_rules | `(tactic| walk_at "R_adjugate_of") => `(tactic| exact ⟨_, _, rfl, rfl, by walk_at "sm", by first | decide | omega⟩)

theorem sc_is_whole : FnScope ["value"] ["value"] (defScope s_is_whole) := ⟨rfl, rfl, rfl, by decide +kernel, rfl, by decide +kernel, by decide +kernel⟩
def R_is_whole : List D → D → Prop := fun ds r => ∃ (x : T), ds = [.t x] ∧ r = .t (.bl (wholeB x)) ∧ tyT x ≠ none
theorem ok_is_whole (T : Txt K mg) : FnOk P w K mg base CX0 1 T.a_is_whole T.fd_is_whole ["value"] (spD K R_is_whole) := by
  refine fn_d T.F_is_whole sc_is_whole (fun ds r h => ?_) (fun cdv A outer s H E hr => ?_)
  · obtain ⟨x, rfl, _⟩ := h
    rfl
  · have hu := hr.units
    refine ⟨_, (pss_one (ps_ret (pe_and (pe_callB (ck_isi K) (by rfl) T.z_isinstance (by decide +kernel) (pa_cons (pv 0) (pa_cons (pe_bltn (v := .ty "int") (u := .type "int") (by rfl) T.z_int (by decide +kernel) rfl) pa_nil))) (pe_one (pe_not (pe_callB (ck_isi K) (by rfl) T.z_isinstance (by decide +kernel) (pa_cons (pv 0) (pa_cons (pe_bltn (v := .ty "bool") (u := .type "bool") (by rfl) T.z_bool (by decide +kernel) rfl) pa_nil)))))))), fun ds r h => ?_⟩
    obtain ⟨x, rfl, rfl, hx⟩ := h
    show Sv K W0 _ [D.t x] _
    cases x with
    | int i => exact sv_ret (ev_and2 (ev_isT (b := true) (ev_var rfl) rfl (by decide +kernel)) (ev_notV (ev_isT (b := false) (ev_var rfl) rfl (by decide +kernel)))) rfl
    | bl b => exact sv_ret (ev_and2 (ev_isT (b := true) (ev_var rfl) rfl (by decide +kernel)) (ev_notV (ev_isT (b := true) (ev_var rfl) rfl (by decide +kernel)))) rfl
    | non => exact sv_ret (ev_and2 (ev_isT (b := false) (ev_var rfl) rfl (by decide +kernel)) (ev_notV (ev_isT (b := false) (ev_var rfl) rfl (by decide +kernel)))) rfl
    | str z => exact sv_ret (ev_and2 (ev_isT (b := false) (ev_var rfl) rfl (by decide +kernel)) (ev_notV (ev_isT (b := false) (ev_var rfl) rfl (by decide +kernel)))) rfl
    | tup z => exact sv_ret (ev_and2 (ev_isT (b := false) (ev_var rfl) rfl (by decide +kernel)) (ev_notV (ev_isT (b := false) (ev_var rfl) rfl (by decide +kernel)))) rfl
    | obj _ _ _ => exact absurd rfl hx
local macro_rules | `(tactic| walk_at "R_is_whole") => `(tactic| exact ⟨_, rfl, rfl, (fun z => nomatch z)⟩)
theorem sc_is_within : FnScope ["value", "least", "greatest"] ["value", "least", "greatest"] (defScope s_is_within) := ⟨rfl, rfl, rfl, by decide +kernel, rfl, by decide +kernel, by decide +kernel⟩
def R_is_within : List D → D → Prop := fun ds r => ∃ (x a b : Int), ds = [.t (.int x), .t (.int a), .t (.int b)] ∧ r = .t (.bl (decide (a ≤ x) && decide (x ≤ b)))
theorem ok_is_within (T : Txt K mg) : FnOk P w K mg base CX0 2 T.a_is_within T.fd_is_within ["value", "least", "greatest"] (spD K R_is_within) := by
  refine fn_d T.F_is_within sc_is_within (fun ds r h => ?_) (fun cdv A outer s H E hr => ?_)
  · obtain ⟨x, a, b, rfl, _⟩ := h
    rfl
  · have hu := hr.units
    have G_is_whole : FnOk P w K mg base CX0 1 T.a_is_whole T.fd_is_whole ["value"] (spD K R_is_whole) := ok_is_whole T
    refine ⟨_, (pss_one (ps_ret (pe_and (pe_call G_is_whole (hr.mono (by decide)) (by rfl) T.g_is_whole T.F_is_whole.kp T.b_is_whole .nil pass0 (pa_cons (pv 0) pa_nil)) (pe_one (pe_chain op_le op_le (pv 1) (pv 0) (pv 2)))))), fun ds r h => ?_⟩
    obtain ⟨x, a, b, rfl, rfl⟩ := h
    show Sv K W0 _ [D.t (.int x), D.t (.int a), D.t (.int b)] _
    refine sv_ret (ev_andV (a := true) (ev_call (eva_t (ev_var rfl) eva_nil) (by walk_at "R_is_whole")) (fun _ => ev_chain (fun _ _ => rfl) (fun _ _ => rfl) (ev_var rfl) (ev_var rfl) (ev_var rfl)) (fun z => nomatch z)) ?_
    rfl
local macro_rules | `(tactic| walk_at "R_is_within") => `(tactic| exact ⟨_, _, _, rfl, rfl⟩)

theorem sc_is_item : FnScope ["value"] ["value"] (defScope s_is_item) := ⟨rfl, rfl, rfl, by decide +kernel, rfl, by decide +kernel, by decide +kernel⟩
def R_is_item : List D → D → Prop := fun ds r => ∃ (x : Int), ds = [.t (.int x)] ∧ r = .t (.bl (okI x))
theorem ok_is_item (T : Txt K mg) : FnOk P w K mg base CX0 3 T.a_is_item T.fd_is_item ["value"] (spD K R_is_item) := by
  refine fn_d T.F_is_item sc_is_item (fun ds r h => ?_) (fun cdv A outer s H E hr => ?_)
  · obtain ⟨x, rfl, _⟩ := h
    rfl
  · have hu := hr.units
    have G_is_within : FnOk P w K mg base CX0 2 T.a_is_within T.fd_is_within ["value", "least", "greatest"] (spD K R_is_within) := ok_is_within T
    refine ⟨_, (pss_one (ps_ret (pe_call G_is_within (hr.mono (by decide)) (by rfl) T.g_is_within T.F_is_within.kp T.b_is_within .nil pass0 (pa_cons (pv 0) (pa_cons (pe_un un_neg (pe_glob (v := .int (1000)) (by rfl) T.c_GREATEST_ITEM ⟨_, rfl⟩)) (pa_cons (pe_glob (v := .int (1000)) (by rfl) T.c_GREATEST_ITEM ⟨_, rfl⟩) pa_nil)))))), fun ds r h => ?_⟩
    obtain ⟨x, rfl, rfl⟩ := h
    show Sv K W0 _ [D.t (.int x)] _
    refine sv_ret (ev_call (eva_t (ev_var rfl) (eva_t (ev_neg ev_int) (eva_t ev_int eva_nil))) (by walk_at "R_is_within")) rfl
local macro_rules | `(tactic| walk_at "R_is_item") => `(tactic| exact ⟨_, rfl, rfl⟩)
theorem sc_is_below_zero : FnScope ["table"] ["table"] (defScope s_is_below_zero) := ⟨rfl, rfl, rfl, by decide +kernel, rfl, by decide +kernel, by decide +kernel⟩
def R_is_below_zero : List D → D → Prop := fun ds r => ∃ (m : Mat) (n : Nat), ds = [.t (mat m)] ∧ r = .t (.bl (belowZ m)) ∧ m.sm n ∧ n ≤ 40000
theorem ok_is_below_zero (T : Txt K mg) : FnOk P w K mg base CX0 1 T.a_is_below_zero T.fd_is_below_zero ["table"] (spD K R_is_below_zero) := by
  refine fn_d T.F_is_below_zero sc_is_below_zero (fun ds r h => ?_) (fun cdv A outer s H E hr => ?_)
  · obtain ⟨m, n, rfl, _⟩ := h
    rfl
  · have hu := hr.units
    skip
    refine ⟨_, (pss_one (ps_ret (pe_and (pe_cmpR op_lt (pk_ixT K (pk_ixT K (pv 0) pe_int (fun _ _ => rfl)) pe_int (fun _ _ => rfl)) pe_int (nomark _)) (pe_one (pe_cmpR op_gt (pe_op op_sub (pe_op op_mulW (pk_ixT K (pk_ixT K (pv 0) pe_int (fun _ _ => rfl)) pe_int (fun _ _ => rfl)) (pk_ixT K (pk_ixT K (pv 0) pe_int (fun _ _ => rfl)) pe_int (fun _ _ => rfl))) (pe_op op_mulW (pk_ixT K (pk_ixT K (pv 0) pe_int (fun _ _ => rfl)) pe_int (fun _ _ => rfl)) (pk_ixT K (pk_ixT K (pv 0) pe_int (fun _ _ => rfl)) pe_int (fun _ _ => rfl)))) pe_int (nomark _)))))), fun ds r h => ?_⟩
    obtain ⟨m, n, rfl, rfl, hm, hn⟩ := h
    show Sv K W0 _ [D.t (mat m)] _
    refine (sv_ret (ev_and2 (ev_lt (ev_ixT (ev_ixT (ev_var rfl) ev_int (by rfl)) ev_int (by rfl)) ev_int) (ev_gt (ev_sub (ev_mul (ev_ixT (ev_ixT (ev_var rfl) ev_int (by rfl)) ev_int (by rfl)) (ev_ixT (ev_ixT (ev_var rfl) ev_int (by rfl)) ev_int (by rfl)) (by walk_at "smk")) (ev_mul (ev_ixT (ev_ixT (ev_var rfl) ev_int (by rfl)) ev_int (by rfl)) (ev_ixT (ev_ixT (ev_var rfl) ev_int (by rfl)) ev_int (by rfl)) (by walk_at "smk"))) ev_int)) ?_)
    rfl
local macro_rules | `(tactic| walk_at "R_is_below_zero") => `(tactic| exact ⟨_, _, rfl, rfl, by walk_at "sm", by first | decide | omega⟩)
theorem sc_check_form : FnScope ["table", "row", "item"] ["table"] (defScope s_check_form) := ⟨rfl, rfl, rfl, by decide +kernel, rfl, by decide +kernel, by decide +kernel⟩
def rowsL (m : Mat) : List (List T) := [[.int m.a.x, .int m.a.y, .int m.a.z], [.int m.b.x, .int m.b.y, .int m.b.z], [.int m.c.x, .int m.c.y, .int m.c.z]]
def itemT : T → T | .int x => .bl (okI x) | _ => .bl false
theorem rowsL_int {m : Mat} {xs : List T} {x : T} (h : xs ∈ rowsL m) (hx : x ∈ xs) : ∃ i : Int, x = .int i := by
  simp only [rowsL, List.mem_cons, List.not_mem_nil, or_false] at h
  rcases h with rfl | rfl | rfl <;> (simp only [List.mem_cons, List.not_mem_nil, or_false] at hx; rcases hx with rfl | rfl | rfl <;> exact ⟨_, rfl⟩)
def R_check_form (C : Addr) : List D → Rs → Prop := fun ds r => ∃ (m : Mat) (n : Nat), ds = [.t (mat m)] ∧ r = (if formOk m = true then .ok (.t .non) else .er C) ∧ m.sm n ∧ n ≤ 20000
theorem ok_check_form (T : Txt K mg) : FnOk P w K mg base (L2.CX P w) 4 T.a_check_form T.fd_check_form ["table"] (spX K (R_check_form T.C_BadForm)) := by
  refine fn_x T.F_check_form sc_check_form (fun ds r h => ?_) (fun cdv A outer s H E hr => ?_)
  · obtain ⟨m, n, rfl, _⟩ := h
    rfl
  · have hu := hr.units
    have G_is_item : FnOk P w K mg base CX0 3 T.a_is_item T.fd_is_item ["value"] (spD K R_is_item) := ok_is_item T
    have G_transposed : FnOk P w K mg base CX0 1 T.a_transposed T.fd_transposed ["matrix"] (spD K R_transposed) := ok_transposed T
    have G_determinant_of : FnOk P w K mg base CX0 2 T.a_determinant_of T.fd_determinant_of ["matrix"] (spD K R_determinant_of) := ok_determinant_of T
    have G_is_below_zero : FnOk P w K mg base CX0 1 T.a_is_below_zero T.fd_is_below_zero ["table"] (spD K R_is_below_zero) := ok_is_below_zero T
    refine ⟨_, (pss_cons (ps_if (pt_not (pt_val (pe_callB (ck_all K rfl) (by rfl) T.z_all (by decide +kernel) (pa_cons (pe_lc2 (own := [("row", 1), ("item", 2)]) (vs1 := [2]) (g := (gName 1)) (g1 := (gName 2)) rfl sc_check_form.nd (pki_tup K (pv 0)) (blkOk_by (own := [("row", 1), ("item", 2)]) (N := ["table", "row", "item"]) (sc := defScope s_check_form) (by decide +kernel)) (by decide) (fun _ _ _ _ _ => (pg_name (i := 1) sc_check_form.nd rfl (by first | exact Or.inl rfl | exact Or.inr rfl))) (fun _ _ _ _ _ => pts_nil) (fun _ _ _ _ _ => (pki_tup K (pv 1))) (fun _ _ _ _ _ => (pg_name (i := 2) sc_check_form.nd rfl (by first | exact Or.inl rfl | exact Or.inr rfl))) (fun _ _ _ _ _ => pts_nil) (fun _ _ _ _ _ => (pe_call G_is_item (hr.mono (by decide)) (by rfl) T.g_is_item T.F_is_item.kp T.b_is_item .nil pass0 (pa_cons (pv 2) pa_nil)))) pa_nil)))) (pss_one (ps_raise rfl (takes_of rfl rfl rfl rfl) (pmk_own PySem.F.excBase_ValueError T.x_BadForm T.g_BadForm T.k_BadForm (raises_own T.b_BadForm T.t_BadForm) rfl))) pss_nil)
    (pss_cons (ps_if (pt_cmpR (opk_neD K hu) (pv 0) (pe_call G_transposed (hr.mono (by decide)) (by rfl) T.g_transposed T.F_transposed.kp T.b_transposed .nil pass0 (pa_cons (pv 0) pa_nil)) (nomark _)) (pss_one (ps_raise rfl (takes_of rfl rfl rfl rfl) (pmk_own PySem.F.excBase_ValueError T.x_BadForm T.g_BadForm T.k_BadForm (raises_own T.b_BadForm T.t_BadForm) rfl))) pss_nil)
    (pss_cons (ps_if (pt_not (pt_chain op_le op_le (pe_glob (v := .int (-500)) (by rfl) T.c_LEAST_DETERMINANT ⟨_, rfl⟩) (pe_call G_determinant_of (hr.mono (by decide)) (by rfl) T.g_determinant_of T.F_determinant_of.kp T.b_determinant_of .nil pass0 (pa_cons (pv 0) pa_nil)) (pe_un un_neg pe_int))) (pss_one (ps_raise rfl (takes_of rfl rfl rfl rfl) (pmk_own PySem.F.excBase_ValueError T.x_BadForm T.g_BadForm T.k_BadForm (raises_own T.b_BadForm T.t_BadForm) rfl))) pss_nil)
    (pss_one (ps_if (pt_val (pe_call G_is_below_zero (hr.mono (by decide)) (by rfl) T.g_is_below_zero T.F_is_below_zero.kp T.b_is_below_zero .nil pass0 (pa_cons (pv 0) pa_nil))) (pss_one (ps_raise rfl (takes_of rfl rfl rfl rfl) (pmk_own PySem.F.excBase_ValueError T.x_BadForm T.g_BadForm T.k_BadForm (raises_own T.b_BadForm T.t_BadForm) rfl))) pss_nil))))), fun ds r h => ?_⟩
    obtain ⟨m, n, rfl, hr, hm, hn⟩ := h
    show Sv K _ _ [D.t (mat m), D.no, D.no] _
    have no : ∀ b, (formOk m = true → b = true) → b = false → r = .er T.C_BadForm := fun b h1 h2 => by
      rw [hr, if_neg fun z => by rw [h1 z] at h2; cases h2]
    refine sv_seq (fun G => G = [D.t (mat m), D.no, D.no] ∧ itemsOk m = true) (sv_if (evb_not (evb_val (ev_all (itemsB m) (evl_f (evf_eq (evf_lc2T (xss := rowsL m) itemT (ev_var rfl) (by show 9 < 1000; decide) (by decide) (lt_ok rfl) (fun xs x hxs hx => ?_)) rfl))))) (fun h => (sv_raise ?_)) (fun h => (sv_next ⟨rfl, bnt h⟩))) ?_
    · obtain ⟨i, rfl⟩ := rowsL_int hxs hx
      exact ev_call (eva_t (ev_var rfl) eva_nil) (by walk_at "R_is_item")
    · exact no (itemsOk m) formOk_items (bnf h)
    rintro G ⟨rfl, hi⟩
    refine sv_seq (fun G => G = [D.t (mat m), D.no, D.no] ∧ m = m.tr) (sv_if (evb_test (ev_neM (ev_var rfl) (ev_call (eva_t (ev_var rfl) eva_nil) (by walk_at "R_transposed")))) (fun h => (sv_raise ?_)) (fun h => (sv_next ⟨rfl, by simpa using h⟩))) ?_
    · exact no (decide (m = m.tr)) (fun z => decide_eq_true (formOk_sym z)) (by simpa using h)
    rintro G ⟨rfl, hs⟩
    refine sv_seq (fun G => G = [D.t (mat m), D.no, D.no] ∧ (-500 ≤ det m ∧ det m ≤ -1)) (sv_if (evb_not (evb_test (ev_chain (fun _ _ => rfl) (fun _ _ => rfl) ev_int (ev_call (eva_t (ev_var rfl) eva_nil) (by walk_at "R_determinant_of")) (ev_neg ev_int)))) (fun h => (sv_raise ?_)) (fun h => (sv_next ⟨rfl, by simpa using h⟩))) ?_
    · exact no (decide (-500 ≤ det m) && decide (det m ≤ -1)) (fun z => by simpa using formOk_det z) (bnf h)
    rintro G ⟨rfl, hd⟩
    refine sv_if (evb_val (ev_call (eva_t (ev_var rfl) eva_nil) (by walk_at "R_is_below_zero"))) (fun h => (sv_raise ?_)) (fun h => (sv_next ?_))
    · exact no (!belowZ m) (fun z => by rw [formOk_bz z]; rfl) (by rw [h]; rfl)
    · show r = .ok (.t .non)
      rw [hr, if_pos (formOk_of hi hs hd h)]
theorem sc_last_of : FnScope ["table", "determinant", "common", "row", "item"] ["table"] (defScope s_last_of) := ⟨rfl, rfl, rfl, by decide +kernel, rfl, by decide +kernel, by decide +kernel⟩
def R_last_of : List D → D → Prop := fun ds r => ∃ (m : Mat), ds = [.t (mat m)] ∧ r = .t (.int (lastM m)) ∧ m.sm 20 ∧ det m ≠ 0
theorem ok_last_of (T : Txt K mg) : FnOk P w K mg base CX0 3 T.a_last_of T.fd_last_of ["table"] (spD K R_last_of) := by
  refine fn_d T.F_last_of sc_last_of (fun ds r h => ?_) (fun cdv A outer s H E hr => ?_)
  · obtain ⟨m, rfl, _⟩ := h
    rfl
  · have hu := hr.units
    have G_determinant_of : FnOk P w K mg base CX0 2 T.a_determinant_of T.fd_determinant_of ["matrix"] (spD K R_determinant_of) := ok_determinant_of T
    have G_adjugate_of : FnOk P w K mg base CX0 2 T.a_adjugate_of T.fd_adjugate_of ["matrix"] (spD K R_adjugate_of) := ok_adjugate_of T
    refine ⟨_, (pss_cons (ps_set (i := 1) sc_last_of.nd rfl (by first | exact Or.inl rfl | exact Or.inr rfl) (pe_callB call_abs (by rfl) T.z_abs (by decide +kernel) (pa_cons (pe_call G_determinant_of (hr.mono (by decide)) (by rfl) T.g_determinant_of T.F_determinant_of.kp T.b_determinant_of .nil pass0 (pa_cons (pv 0) pa_nil)) pa_nil)))
    (pss_cons (ps_set (i := 2) sc_last_of.nd rfl (by first | exact Or.inl rfl | exact Or.inr rfl) (pv 1))
    (pss_cons (ps_for PassesOwn.never rfl (pki_tup K (pe_call G_adjugate_of (hr.mono (by decide)) (by rfl) T.g_adjugate_of T.F_adjugate_of.kp T.b_adjugate_of .nil pass0 (pa_cons (pv 0) pa_nil))) (pg_name (i := 3) sc_last_of.nd rfl (by first | exact Or.inl rfl | exact Or.inr rfl)) (pss_one (ps_for PassesOwn.never rfl (pki_tup K (pv 3)) (pg_name (i := 4) sc_last_of.nd rfl (by first | exact Or.inl rfl | exact Or.inr rfl)) (pss_one (ps_set (i := 2) sc_last_of.nd rfl (by first | exact Or.inl rfl | exact Or.inr rfl) (pe_callBfun cr_gcd (by rfl) T.z_gcd (pa_cons (pv 2) (pa_cons (pv 4) pa_nil))))))))
    (pss_one (ps_ret (pe_op op_fdivW (pv 1) (pv 2))))))), fun ds r h => ?_⟩
    obtain ⟨m, rfl, rfl, hm, hd⟩ := h
    show Sv K W0 _ [D.t (mat m), D.no, D.no, D.no, D.no] _
    have hdm : Sm 64 (if det m < 0 then -det m else det m) := Sm.abs ((sm_det hm).mono (by decide))
    obtain ⟨g, hg⟩ : ∃ g : Int → Int → Int, g = gI := ⟨_, rfl⟩
    have ev_g : ∀ {Γ : List D} {ta tb : TE} {a b : Int}, Ev K ta Γ (.int a) → Ev K tb Γ (.int b) → Ev K (tCB rGcd (tCons ta (tCons tb tNil))) Γ (.int (g a b)) := fun h1 h2 => by
      rw [hg]
      exact ev_gcd h1 h2
    have e : lastM m = (if det m < 0 then -det m else det m) / cmnG g (cmnG g (cmnG g (if det m < 0 then -det m else det m) (adj m).a) (adj m).b) (adj m).c := by
      rw [hg]
      rfl
    have hdiv : CDivW (if det m < 0 then -det m else det m) (cmnG g (cmnG g (cmnG g (if det m < 0 then -det m else det m) (adj m).a) (adj m).b) (adj m).c) := by
      rw [hg]
      exact divok (cmnM_pos hd) (smle hdm (cmnM_nn m) (cmnM_le hd)) (by decide)
    rw [e]
    have hA : (adj m).sm 64 := (sm_adj hm).mono (by decide)
    refine sv_then [D.t (mat m), D.t (.int (if det m < 0 then -det m else det m)), D.no, D.no, D.no] (sv_set (ev_abs (ev_call (eva_t (ev_var rfl) eva_nil) (by walk_at "R_determinant_of"))) rfl) ?_
    clear hg e
    generalize (if det m < 0 then -det m else det m) = d at *
    refine (sv_then _ (sv_set (ev_var rfl) rfl) (sv_seq (fun G => ∃ a b, G = [D.t (mat m), D.t (.int d), D.t (.int (cmnG g (cmnG g (cmnG g d (adj m).a) (adj m).b) (adj m).c)), a, b]) (sv_forT3 (x1 := row (adj m).a) (x2 := row (adj m).b) (x3 := row (adj m).c) (ev_call (eva_t (ev_var rfl) eva_nil) (by walk_at "R_adjugate_of"))
      (G1 := [D.t (mat m), D.t (.int d), D.t (.int (cmnG g d (adj m).a)), D.t (row (adj m).a), D.t (.int (adj m).a.z)])
      (G2 := [D.t (mat m), D.t (.int d), D.t (.int (cmnG g (cmnG g d (adj m).a) (adj m).b)), D.t (row (adj m).b), D.t (.int (adj m).b.z)])
      (G3 := [D.t (mat m), D.t (.int d), D.t (.int (cmnG g (cmnG g (cmnG g d (adj m).a) (adj m).b) (adj m).c)), D.t (row (adj m).c), D.t (.int (adj m).c.z)])
      (gd_name _ _) (sv_forT3 (ev_var rfl) (gd_name _ _) (sv_set (ev_g (ev_var rfl) (ev_var rfl)) rfl) (gd_name _ _) (sv_set (ev_g (ev_var rfl) (ev_var rfl)) rfl) (gd_name _ _) (sv_set (ev_g (ev_var rfl) (ev_var rfl)) rfl) rfl)
      (gd_name _ _) (sv_forT3 (ev_var rfl) (gd_name _ _) (sv_set (ev_g (ev_var rfl) (ev_var rfl)) rfl) (gd_name _ _) (sv_set (ev_g (ev_var rfl) (ev_var rfl)) rfl) (gd_name _ _) (sv_set (ev_g (ev_var rfl) (ev_var rfl)) rfl) rfl)
      (gd_name _ _) (sv_forT3 (ev_var rfl) (gd_name _ _) (sv_set (ev_g (ev_var rfl) (ev_var rfl)) rfl) (gd_name _ _) (sv_set (ev_g (ev_var rfl) (ev_var rfl)) rfl) (gd_name _ _) (sv_set (ev_g (ev_var rfl) (ev_var rfl)) rfl) rfl) ⟨_, _, rfl⟩) ?_))
    rintro G ⟨a, b, rfl⟩
    exact sv_ret (ev_fdivW (ev_var rfl) (ev_var rfl) hdiv) rfl
theorem sc_Form__init_ : FnScope ["self", "table"] ["self", "table"] (defScope s_Form__init_) := ⟨rfl, rfl, rfl, by decide +kernel, rfl, by decide +kernel, by decide +kernel⟩
def formT (C : Addr) (m : Mat) : T := .obj C ["table", "determinant", "last"] [mat m, .int (det m), .int (lastM m)]
def R_Form__init_ (C Ce : Addr) : List D → Rs → Prop := fun ds r => ∃ (m : Mat) (n : Nat), ds = [.t (mat m)] ∧ r = (if formOk m = true then .ok (.t (formT C m)) else .er Ce) ∧ m.sm n ∧ n ≤ 20000
theorem ok_Form__init_ (T : Txt K mg) : FnOk P w K mg base (L2.CX P w) 5 T.a_Form__init_ T.fd_Form__init_ ["self", "table"] (spI K T.C_Form (R_Form__init_ T.C_Form T.C_BadForm)) := by
  refine fn_i T.F_Form__init_ sc_Form__init_ (fun ds r h => ?_) (fun ds r h xs hm => ?_) (fun cdv A outer s H E hr => ?_)
  · obtain ⟨m, n, rfl, _⟩ := h
    rfl
  · obtain ⟨m, n, rfl, _⟩ := h
    simp at hm
  · have hu := hr.units
    have G_check_form : FnOk P w K mg base (L2.CX P w) 4 T.a_check_form T.fd_check_form ["table"] (spX K (R_check_form T.C_BadForm)) := ok_check_form T
    have G_determinant_of : FnOk P w K mg base CX0 2 T.a_determinant_of T.fd_determinant_of ["matrix"] (spD K R_determinant_of) := ok_determinant_of T
    have G_last_of : FnOk P w K mg base CX0 3 T.a_last_of T.fd_last_of ["table"] (spD K R_last_of) := ok_last_of T
    refine ⟨_, (pss_cons (ps_expr (pe_call G_check_form (hr.mono (by decide)) (by rfl) T.g_check_form T.F_check_form.kp T.b_check_form .nil (passes_call (takes_of rfl rfl rfl rfl) (fun _ _ _ _ h => h)) (pa_cons (pv 1) pa_nil)))
    (pss_cons (ps_fld (pv 0) (pv 1) rfl)
    (pss_cons (ps_fld (pv 0) (pe_call G_determinant_of (hr.mono (by decide)) (by rfl) T.g_determinant_of T.F_determinant_of.kp T.b_determinant_of .nil pass0 (pa_cons (pv 1) pa_nil)) rfl)
    (pss_one (ps_fld (pv 0) (pe_call G_last_of (hr.mono (by decide)) (by rfl) T.g_last_of T.F_last_of.kp T.b_last_of .nil pass0 (pa_cons (pv 1) pa_nil)) rfl))))), fun ds r x dx σ H D hR I hok her => ?_⟩
    obtain ⟨m, n, rfl, hr, hm, hn⟩ := hR
    by_cases h : formOk m = true
    · have h20 : m.sm 20 := (items_sm (formOk_items h)).mono (by decide)
      have hd : det m ≠ 0 := by
        have := formOk_det h
        omega
      rw [if_pos h] at hr
      exact i_do I (ev_callX (eva_t (ev_var rfl) eva_nil) (by exact ⟨_, _, rfl, (if_pos h).symm, hm, hn⟩)) fun H1 I1 =>
        i_fldV I1 rfl T.c_Form T.n_Form_table rfl (by decide) fun H2 I2 =>
        i_fld I2 (ev_call (eva_t (ev_var rfl) eva_nil) (by walk_at "R_determinant_of")) rfl T.c_Form T.n_Form_determinant (by decide +kernel) (by decide) fun H3 I3 =>
        i_fld I3 (ev_call (eva_t (ev_var rfl) eva_nil) (by exact ⟨_, rfl, rfl, h20, hd⟩)) rfl T.c_Form T.n_Form_last (by decide +kernel) (by decide) fun H4 I4 =>
        hok H4 _ _ hr I4
    · rw [if_neg h] at hr
      exact i_doE I (eve_callX (eva_t (ev_var rfl) eva_nil) (by exact ⟨_, _, rfl, (if_neg h).symm, hm, hn⟩)) fun H1 I1 => her H1 _ _ _ hr I1
theorem sc_Form_product : FnScope ["self", "v", "w"] ["self", "v", "w"] (defScope s_Form_product) := ⟨rfl, rfl, rfl, by decide +kernel, rfl, by decide +kernel, by decide +kernel⟩
def R_Form_product (C : Addr) : List D → D → Prop := fun ds r => ∃ (m : Mat) (v u : Row) (n k : Nat), ds = [.t (formT C m), .t (row v), .t (row u)] ∧ r = .t (.int (dot v (image m u))) ∧ m.sm 20 ∧ v.sm n ∧ u.sm k ∧ n ≤ 20000 ∧ k ≤ 20000
theorem ok_Form_product (T : Txt K mg) : FnOk P w K mg base CX0 3 T.a_Form_product T.fd_Form_product ["self", "v", "w"] (spD K (R_Form_product T.C_Form)) := by
  refine fn_d T.F_Form_product sc_Form_product (fun ds r h => ?_) (fun cdv A outer s H E hr => ?_)
  · obtain ⟨m, v, u, n, k, rfl, _⟩ := h
    rfl
  · have hu := hr.units
    have G_dot : FnOk P w K mg base CX0 1 T.a_dot T.fd_dot ["first", "second"] (spD K R_dot) := ok_dot T
    have G_image : FnOk P w K mg base CX0 2 T.a_image T.fd_image ["matrix", "row"] (spD K R_image) := ok_image T
    refine ⟨_, (pss_one (ps_ret (pe_call G_dot (hr.mono (by decide)) (by rfl) T.g_dot T.F_dot.kp T.b_dot .nil pass0 (pa_cons (pv 1) (pa_cons (pe_call G_image (hr.mono (by decide)) (by rfl) T.g_image T.F_image.kp T.b_image .nil pass0 (pa_cons (pk_fld K (pv 0) rfl) (pa_cons (pv 2) pa_nil))) pa_nil))))), fun ds r h => ?_⟩
    obtain ⟨m, v, u, n, k, rfl, rfl, hm, hv, hu, hn, hk⟩ := h
    show Sv K W0 _ [D.t (formT T.C_Form m), D.t (row v), D.t (row u)] _
    refine (sv_ret (ev_call (eva_t (ev_var rfl) (eva_t (ev_call (eva_t (ev_fld 0 (ev_var rfl) T.c_Form T.n_Form_table rfl (by decide +kernel) rfl) (eva_t (ev_var rfl) eva_nil)) (by walk_at "R_image")) eva_nil)) (by walk_at "R_dot")) ?_)
    rfl
local macro_rules | `(tactic| walk_at "R_Form_product") => `(tactic| exact ⟨_, _, _, _, _, rfl, rfl, by walk_at "sm", by walk_at "sm", by walk_at "sm", by first | decide | omega, by first | decide | omega⟩)
theorem sc_Form_norm : FnScope ["self", "v"] ["self", "v"] (defScope s_Form_norm) := ⟨rfl, rfl, rfl, by decide +kernel, rfl, by decide +kernel, by decide +kernel⟩
def R_Form_norm (C : Addr) : List D → D → Prop := fun ds r => ∃ (m : Mat) (v : Row) (n : Nat), ds = [.t (formT C m), .t (row v)] ∧ r = .t (.int (dot v (image m v))) ∧ m.sm 20 ∧ v.sm n ∧ n ≤ 20000
theorem ok_Form_norm (T : Txt K mg) : FnOk P w K mg base CX0 4 T.a_Form_norm T.fd_Form_norm ["self", "v"] (spD K (R_Form_norm T.C_Form)) := by
  refine fn_d T.F_Form_norm sc_Form_norm (fun ds r h => ?_) (fun cdv A outer s H E hr => ?_)
  · obtain ⟨m, v, n, rfl, _⟩ := h
    rfl
  · have hu := hr.units
    have G_Form_product : FnOk P w K mg base CX0 3 T.a_Form_product T.fd_Form_product ["self", "v", "w"] (spD K (R_Form_product T.C_Form)) := ok_Form_product T
    refine ⟨_, (pss_one (ps_ret (pe_meth (pv 0) T.c_Form T.m_Form_product G_Form_product (hr.mono (by decide)) T.b_Form_product .nil pass0 (pa_cons (pv 1) (pa_cons (pv 1) pa_nil))))), fun ds r h => ?_⟩
    obtain ⟨m, v, n, rfl, rfl, hm, hv, hn⟩ := h
    show Sv K W0 _ [D.t (formT T.C_Form m), D.t (row v)] _
    refine (sv_ret (ev_meth (ev_var rfl) (by decide +kernel) (eva_t (ev_var rfl) (eva_t (ev_var rfl) eva_nil)) (by walk_at "R_Form_product")) ?_)
    rfl
local macro_rules | `(tactic| walk_at "R_Form_norm") => `(tactic| exact ⟨_, _, _, rfl, rfl, by walk_at "sm", by walk_at "sm", by first | decide | omega⟩)

local macro_rules | `(tactic| walk_at "divk") => `(tactic| (apply Kx.divok; (assumption); (walk_at "sm"); (first | decide | omega)))
local macro_rules | `(tactic| walk_at "divx") => `(tactic| assumption)
theorem sc_shifted : FnScope ["row", "step", "times"] ["row", "step", "times"] (defScope s_shifted) := ⟨rfl, rfl, rfl, by decide +kernel, rfl, by decide +kernel, by decide +kernel⟩
def R_shifted : List D → D → Prop := fun ds r => ∃ (v u : Row) (t : Int) (n k j : Nat), ds = [.t (row v), .t (row u), .t (.int t)] ∧ r = .t (row (shR v u t)) ∧ v.sm n ∧ u.sm k ∧ Sm j t ∧ n ≤ 20000 ∧ k ≤ 20000 ∧ j ≤ 20000
theorem ok_shifted (T : Txt K mg) : FnOk P w K mg base CX0 1 T.a_shifted T.fd_shifted ["row", "step", "times"] (spD K R_shifted) := by
  refine fn_d T.F_shifted sc_shifted (fun ds r h => ?_) (fun cdv A outer s H E hr => ?_)
  · obtain ⟨v, u, t, n, k, j, rfl, _⟩ := h
    rfl
  · have hu := hr.units
    refine ⟨_, (pss_one (ps_ret (pe_tup (pa_cons (pe_op op_add (pk_ixT K (pv 0) pe_int (fun _ _ => rfl)) (pe_op op_mulW (pv 2) (pk_ixT K (pv 1) pe_int (fun _ _ => rfl)))) (pa_cons (pe_op op_add (pk_ixT K (pv 0) pe_int (fun _ _ => rfl)) (pe_op op_mulW (pv 2) (pk_ixT K (pv 1) pe_int (fun _ _ => rfl)))) (pa_cons (pe_op op_add (pk_ixT K (pv 0) pe_int (fun _ _ => rfl)) (pe_op op_mulW (pv 2) (pk_ixT K (pv 1) pe_int (fun _ _ => rfl)))) pa_nil)))))), fun ds r h => ?_⟩
    obtain ⟨v, u, t, n, k, j, rfl, rfl, hv, hu', ht, hn, hk, hj⟩ := h
    show Sv K W0 _ [D.t (row v), D.t (row u), D.t (.int t)] _
    refine (sv_ret (ev_row (ev_add (ev_ixT (ev_var rfl) ev_int (by rfl)) (ev_mul (ev_var rfl) (ev_ixT (ev_var rfl) ev_int (by rfl)) (by walk_at "smk"))) (ev_add (ev_ixT (ev_var rfl) ev_int (by rfl)) (ev_mul (ev_var rfl) (ev_ixT (ev_var rfl) ev_int (by rfl)) (by walk_at "smk"))) (ev_add (ev_ixT (ev_var rfl) ev_int (by rfl)) (ev_mul (ev_var rfl) (ev_ixT (ev_var rfl) ev_int (by rfl)) (by walk_at "smk")))) ?_)
    rfl
local macro_rules | `(tactic| walk_at "R_shifted") => `(tactic| exact ⟨_, _, _, _, _, _, rfl, rfl, by walk_at "sm", by walk_at "sm", by walk_at "sm", by first | decide | omega, by first | decide | omega, by first | decide | omega⟩)
theorem sc_scaled : FnScope ["row", "times"] ["row", "times"] (defScope s_scaled) := ⟨rfl, rfl, rfl, by decide +kernel, rfl, by decide +kernel, by decide +kernel⟩
def R_scaled : List D → D → Prop := fun ds r => ∃ (v : Row) (t : Int) (n j : Nat), ds = [.t (row v), .t (.int t)] ∧ r = .t (row (scR v t)) ∧ v.sm n ∧ Sm j t ∧ n ≤ 20000 ∧ j ≤ 20000
theorem ok_scaled (T : Txt K mg) : FnOk P w K mg base CX0 1 T.a_scaled T.fd_scaled ["row", "times"] (spD K R_scaled) := by
  refine fn_d T.F_scaled sc_scaled (fun ds r h => ?_) (fun cdv A outer s H E hr => ?_)
  · obtain ⟨v, t, n, j, rfl, _⟩ := h
    rfl
  · have hu := hr.units
    refine ⟨_, (pss_one (ps_ret (pe_tup (pa_cons (pe_op op_mulW (pv 1) (pk_ixT K (pv 0) pe_int (fun _ _ => rfl))) (pa_cons (pe_op op_mulW (pv 1) (pk_ixT K (pv 0) pe_int (fun _ _ => rfl))) (pa_cons (pe_op op_mulW (pv 1) (pk_ixT K (pv 0) pe_int (fun _ _ => rfl))) pa_nil)))))), fun ds r h => ?_⟩
    obtain ⟨v, t, n, j, rfl, rfl, hv, ht, hn, hj⟩ := h
    show Sv K W0 _ [D.t (row v), D.t (.int t)] _
    refine (sv_ret (ev_row (ev_mul (ev_var rfl) (ev_ixT (ev_var rfl) ev_int (by rfl)) (by walk_at "smk")) (ev_mul (ev_var rfl) (ev_ixT (ev_var rfl) ev_int (by rfl)) (by walk_at "smk")) (ev_mul (ev_var rfl) (ev_ixT (ev_var rfl) ev_int (by rfl)) (by walk_at "smk"))) ?_)
    rfl
local macro_rules | `(tactic| walk_at "R_scaled") => `(tactic| exact ⟨_, _, _, _, rfl, rfl, by walk_at "sm", by walk_at "sm", by first | decide | omega, by first | decide | omega⟩)
theorem sc_divided : FnScope ["first", "second", "times", "rest"] ["first", "second"] (defScope s_divided) := ⟨rfl, rfl, rfl, by decide +kernel, rfl, by decide +kernel, by decide +kernel⟩
def R_divided : List D → D → Prop := fun ds r => ∃ (a b : VR) (n k : Nat), ds = [.t a.t, .t b.t] ∧ r = .t (.tup [(euc a b).1.t, (euc a b).2.t]) ∧ a.r.sm n ∧ b.r.sm n ∧ Sm k a.u ∧ Sm k b.u ∧ n ≤ 4000 ∧ k ≤ 4000
theorem ok_divided (T : Txt K mg) : FnOk P w K mg base CX0 2 T.a_divided T.fd_divided ["first", "second"] (spD K R_divided) := by
  refine fn_d T.F_divided sc_divided (fun ds r h => ?_) (fun cdv A outer s H E hr => ?_)
  · obtain ⟨a, b, n, k, rfl, _⟩ := h
    rfl
  · have hu := hr.units
    have G_shifted : FnOk P w K mg base CX0 1 T.a_shifted T.fd_shifted ["row", "step", "times"] (spD K R_shifted) := ok_shifted T
    refine ⟨_, (pss_cons (ps_while PassesOwn.never (pt_cmpR op_ne (pk_ixT K (pv 1) pe_int (fun _ _ => rfl)) pe_int (nomark _)) (pss_cons (ps_set (i := 2) sc_divided.nd rfl (by first | exact Or.inl rfl | exact Or.inr rfl) (pe_op op_fdivX (pk_ixT K (pv 0) pe_int (fun _ _ => rfl)) (pk_ixT K (pv 1) pe_int (fun _ _ => rfl))))
    (pss_cons (ps_set (i := 3) sc_divided.nd rfl (by first | exact Or.inl rfl | exact Or.inr rfl) (pe_tup (pa_cons (pe_op op_sub (pk_ixT K (pv 0) pe_int (fun _ _ => rfl)) (pe_op op_mulW (pv 2) (pk_ixT K (pv 1) pe_int (fun _ _ => rfl)))) (pa_cons (pe_call G_shifted (hr.mono (by decide)) (by rfl) T.g_shifted T.F_shifted.kp T.b_shifted .nil pass0 (pa_cons (pk_ixT K (pv 0) pe_int (fun _ _ => rfl)) (pa_cons (pk_ixT K (pv 1) pe_int (fun _ _ => rfl)) (pa_cons (pe_un un_neg (pv 2)) pa_nil)))) pa_nil))))
    (pss_one (ps_par (i := 0) (j := 1) (by rfl) sc_divided.nd rfl rfl (by decide) rfl rfl (pa_cons (pv 1) (pa_cons (pv 3) pa_nil)) (by rfl))))))
    (pss_one (ps_ret (pe_tup (pa_cons (pv 0) (pa_cons (pv 1) pa_nil)))))), fun ds r h => ?_⟩
    obtain ⟨a, b, n, k, rfl, rfl, ha, hb, hua, hub, hn, hk⟩ := h
    show Sv K W0 _ [D.t a.t, D.t b.t, D.no, D.no] _
    refine sv_seq (fun G => ∃ x y, G = [D.t (euc a b).1.t, D.t (euc a b).2.t, x, y]) ?_ ?_
    · refine sv_while (fun m G => ∃ a' b' x y, G = [D.t a'.t, D.t b'.t, x, y] ∧ b'.u.natAbs = m ∧ EuOk n k a b a' b') b.u.natAbs ⟨a, b, _, _, rfl, rfl, euok_first ha hb hua hub⟩ ?_
      rintro m G ⟨a', b', x, y, rfl, rfl, hk'⟩
      refine ⟨_, evb_test (ev_neI (ev_ixT (ev_var rfl) ev_int (by rfl)) ev_int), fun h => ?_, fun h => ?_⟩
      · have z : b'.u ≠ 0 := by simpa using h
        obtain ⟨s1, s2, s3, s4⟩ := hk'.sizes
        have s5 : Sm (k + 2) (a'.u.fdiv b'.u) := sm_fdiv z s3
        have hd : CDivX a'.u b'.u := divxok z s4 (by omega)
        refine sv_then _ (sv_set (ev_fdivX (ev_ixT (ev_var rfl) ev_int (by rfl)) (ev_ixT (ev_var rfl) ev_int (by rfl)) hd) rfl) ?_
        refine sv_then _ (sv_set (x := (eSt a' b').t) (ev_tups (evt_cons (ev_sub (ev_ixT (ev_var rfl) ev_int (by rfl)) (ev_mul (ev_var rfl) (ev_ixT (ev_var rfl) ev_int (by rfl)) (by walk_at "smk"))) (evt_cons (ev_call (eva_t (ev_ixT (ev_var rfl) ev_int (by rfl)) (eva_t (ev_ixT (ev_var rfl) ev_int (by rfl)) (eva_t (ev_neg (ev_var rfl)) eva_nil))) (by walk_at "R_shifted")) evt_nil)) (le_ok rfl)) rfl) ?_
        exact sv_par2 (ev_var rfl) (ev_var rfl) ⟨_, rest_lt z, _, _, _, _, rfl, rfl, hk'.next z⟩
      · have z : b'.u = 0 := by simpa using h
        exact ⟨x, y, by rw [← hk'.e, euc_done z]⟩
    · rintro G ⟨x, y, rfl⟩
      refine sv_ret (ev_tups (evt_cons (ev_var rfl) (evt_cons (ev_var rfl) evt_nil)) (le_ok rfl)) rfl
local macro_rules | `(tactic| walk_at "R_divided") => `(tactic| exact ⟨_, _, _, _, rfl, rfl, by walk_at "sm", by walk_at "sm", by walk_at "sm", by walk_at "sm", by first | decide | omega, by first | decide | omega⟩)

theorem sc_check_base : FnScope ["form", "p"] ["form", "p"] (defScope s_check_base) := ⟨rfl, rfl, rfl, by decide +kernel, rfl, by decide +kernel, by decide +kernel⟩
def R_check_base (C CB : Addr) : List D → Rs → Prop := fun ds r => ∃ (m : Mat) (p : Row), ds = [.t (formT C m), .t (row p)] ∧ r = (if 0 ≤ Q m p then .er CB else .ok (.t .non)) ∧ m.sm 20 ∧ p.sm 1000
theorem ok_check_base (T : Txt K mg) : FnOk P w K mg base (L2.CX P w) 5 T.a_check_base T.fd_check_base ["form", "p"] (spX K (R_check_base T.C_Form T.C_BadBase)) := by
  refine fn_x T.F_check_base sc_check_base (fun ds r h => ?_) (fun cdv A outer s H E hr => ?_)
  · obtain ⟨m, p, rfl, _⟩ := h
    rfl
  · have hu := hr.units
    have G_Form_norm : FnOk P w K mg base CX0 4 T.a_Form_norm T.fd_Form_norm ["self", "v"] (spD K (R_Form_norm T.C_Form)) := ok_Form_norm T
    refine ⟨_, (pss_one (ps_if (pt_cmpR op_ge (pe_meth (pv 0) T.c_Form T.m_Form_norm G_Form_norm (hr.mono (by decide)) T.b_Form_norm .nil pass0 (pa_cons (pv 1) pa_nil)) pe_int (nomark _)) (pss_one (ps_raise rfl (takes_of rfl rfl rfl rfl) (pmk_own PySem.F.excBase_ValueError T.x_BadBase T.g_BadBase T.k_BadBase (raises_own T.b_BadBase T.t_BadBase) rfl))) pss_nil)), fun ds r h => ?_⟩
    obtain ⟨m, p, rfl, hr, hm, hp⟩ := h
    show Sv K _ _ [D.t (formT T.C_Form m), D.t (row p)] _
    refine sv_if (b := decide (0 ≤ Q m p)) (evb_test (ev_ge (ev_meth (ns := ["table", "determinant", "last"]) (ts := [mat m, .int (det m), .int (lastM m)]) (ev_var rfl) (by decide +kernel) (eva_t (ev_var rfl) eva_nil) (by walk_at "R_Form_norm")) ev_int)) (fun h => sv_raise ?_) (fun h => sv_next ?_)
    · show r = .er T.C_BadBase
      rw [hr, if_pos (of_decide_eq_true h)]
    · show r = .ok (.t .non)
      rw [hr, if_neg (of_decide_eq_false h)]


--@IMPORT CzC@
theorem sc_law_cell : FnScope ["script", "k"] ["script", "k"] (defScope s_law_cell) := ⟨rfl, rfl, rfl, by decide +kernel, rfl, by decide +kernel, by decide +kernel⟩
def celM (ns : List Int) (k : Nat) : Int := ns.getD k 0
def R_law_cell : List D → D → Prop := fun ds r => ∃ (ns : List Int) (k : Nat), ds = [.l (intsT ns), .t (.int k)] ∧ r = .t (.int (celM ns k)) ∧ ns.length ≤ 63
theorem ok_law_cell (T : Txt K mg) : FnOk P w K mg base CX0 1 T.a_law_cell T.fd_law_cell ["script", "k"] (spD K R_law_cell) := by
  refine fn_d T.F_law_cell sc_law_cell (fun ds r h => ?_) (fun cdv A outer s H E hr => ?_)
  · obtain ⟨ns, k, rfl, _⟩ := h
    rfl
  · have hu := hr.units
    refine ⟨_, (pss_cons (ps_if (pt_cmpR op_lt (pv 1) (pe_callB (ck_len K) (by rfl) T.z_len PySem.boot_len (pa_cons (pv 0) pa_nil)) (nomark _)) (pss_one (ps_ret (pk_ixL K (pv 0) (pv 1) (fun _ _ => rfl)))) pss_nil)
    (pss_one (ps_ret pe_int))), fun ds r h => ?_⟩
    obtain ⟨ns, k, rfl, rfl, hl⟩ := h
    show Sv K W0 _ [D.l (intsT ns), D.t (.int k)] _
    by_cases hk : k < ns.length
    · refine sv_seq (fun _ => False) (sv_if (b := true) (evb_eq (evb_test (ev_lt (ev_var rfl) (ev_lenL (evl_v (by rfl))))) (decide_eq_true (by rw [intsT_len]; omega))) (fun _ => ?_) (fun z => nomatch z)) (fun _ z => z.elim)
      refine sv_ret (x := .int (celM ns k)) (ev_ixL (evl_v (by rfl)) (ev_var rfl) (Cz.atI_nat ?_)) rfl
      unfold intsT celM
      rw [List.getElem?_map, List.getElem?_eq_getElem hk]
      simp [List.getD, List.getElem?_eq_getElem hk]
    · refine sv_then [D.l (intsT ns), D.t (.int k)] (sv_if (b := false) (evb_eq (evb_test (ev_lt (ev_var rfl) (ev_lenL (evl_v (by rfl))))) (decide_eq_false (by rw [intsT_len]; omega))) (fun z => nomatch z) (fun _ => sv_next rfl)) ?_
      have e : celM ns k = 0 := by
        unfold celM
        rw [List.getD_eq_getElem?_getD, List.getElem?_eq_none (by omega)]
        rfl
      rw [e]
      exact sv_ret ev_int rfl
theorem sc_law_mixed : FnScope ["cell", "k", "first", "second"] ["cell", "k"] (defScope s_law_mixed) := ⟨rfl, rfl, rfl, by decide +kernel, rfl, by decide +kernel, by decide +kernel⟩
def mixM (cell k : Int) : Int := (((cell * 48271 + k * 69621 + 11) % 2147483647 * 16807 + (k + 3) * 40692 + 5) % 2147483563) / 5
def R_law_mixed : List D → D → Prop := fun ds r => ∃ (cell k : Int), ds = [.t (.int cell), .t (.int k)] ∧ r = .t (.int (mixM cell k))
theorem ok_law_mixed (T : Txt K mg) : FnOk P w K mg base CX0 1 T.a_law_mixed T.fd_law_mixed ["cell", "k"] (spD K R_law_mixed) := by
  refine fn_d T.F_law_mixed sc_law_mixed (fun ds r h => ?_) (fun cdv A outer s H E hr => ?_)
  · obtain ⟨cell, k, rfl, _⟩ := h
    rfl
  · have hu := hr.units
    refine ⟨_, (pss_cons (ps_set (i := 2) sc_law_mixed.nd rfl (by first | exact Or.inl rfl | exact Or.inr rfl) (pe_op op_mod (pe_callTy call_int1 (by rfl) T.z_int (by decide +kernel) (pa_cons (pe_op op_add (pe_op op_add (pe_op op_mul (pe_callTy call_int1 (by rfl) T.z_int (by decide +kernel) (pa_cons (pv 0) pa_nil)) pe_int) (pe_op op_mul (pv 1) pe_int)) pe_int) pa_nil)) pe_int))
    (pss_cons (ps_set (i := 3) sc_law_mixed.nd rfl (by first | exact Or.inl rfl | exact Or.inr rfl) (pe_op op_mod (pe_callTy call_int1 (by rfl) T.z_int (by decide +kernel) (pa_cons (pe_op op_add (pe_op op_add (pe_op op_mul (pv 2) pe_int) (pe_op op_mul (pe_op op_add (pv 1) pe_int) pe_int)) pe_int) pa_nil)) pe_int))
    (pss_one (ps_ret (pe_op op_fdiv (pv 3) pe_int))))), fun ds r h => ?_⟩
    obtain ⟨cell, k, rfl, rfl⟩ := h
    show Sv K W0 _ [D.t (.int cell), D.t (.int k), D.no, D.no] _
    have cm : ∀ (x y : Int), -18446744073709551616 < y → y < 18446744073709551616 → CMul x y := fun x y h1 h2 => .inr ⟨h1, h2⟩
    refine sv_then [D.t (.int cell), D.t (.int k), D.t (.int ((cell * 48271 + k * 69621 + 11) % 2147483647)), D.no] (sv_set (ev_mod (ev_int1 (ev_add (ev_add (ev_mul0 (ev_int1 (ev_var rfl)) ev_int (cm _ _ (by decide) (by decide))) (ev_mul0 (ev_var rfl) ev_int (cm _ _ (by decide) (by decide)))) ev_int)) ev_int (by decide)) rfl) ?_
    refine sv_then [D.t (.int cell), D.t (.int k), D.t (.int ((cell * 48271 + k * 69621 + 11) % 2147483647)), D.t (.int (((cell * 48271 + k * 69621 + 11) % 2147483647 * 16807 + (k + 3) * 40692 + 5) % 2147483563))] (sv_set (ev_mod (ev_int1 (ev_add (ev_add (ev_mul0 (ev_var rfl) ev_int (cm _ _ (by decide) (by decide))) (ev_mul0 (ev_add (ev_var rfl) ev_int) ev_int (cm _ _ (by decide) (by decide)))) ev_int)) ev_int (by decide)) rfl) ?_
    exact sv_ret (ev_fdiv (ev_var rfl) ev_int ⟨by decide, by decide⟩) rfl
theorem sc_law_digits : FnScope ["cell", "count", "many", "digits", "k"] ["cell", "count", "many"] (defScope s_law_digits) := ⟨rfl, rfl, rfl, by decide +kernel, rfl, by decide +kernel, by decide +kernel⟩
def digB (m : Int) : Int → Nat → List Int
  | _, 0 => []
  | c, n + 1 => c % m :: digB m (c / m) n
def digM (cell : Int) (n : Nat) (m : Int) : List Int := if cell < 1000000000000000000 then (List.range n).map fun (k : Nat) => mixM cell (k : Int) % m else digB m cell n
theorem digB_ok {m : Int} (hm : 0 < m) : ∀ (n : Nat) (c : Int), (digB m c n).length = n ∧ ∀ d ∈ digB m c n, 0 ≤ d ∧ d < m
  | 0, c => ⟨rfl, fun d h => nomatch h⟩
  | n + 1, c => by
    obtain ⟨h1, h2⟩ := digB_ok hm n (c / m)
    refine ⟨by unfold digB; rw [List.length_cons, h1], fun d hd => ?_⟩
    unfold digB at hd
    rcases List.mem_cons.1 hd with rfl | hd
    · exact ⟨Int.emod_nonneg _ (by omega), Int.emod_lt_of_pos _ hm⟩
    · exact h2 d hd
theorem digM_ok {cell m : Int} {n : Nat} (hm : 0 < m) : (digM cell n m).length = n ∧ ∀ d ∈ digM cell n m, 0 ≤ d ∧ d < m := by
  unfold digM
  split
  · refine ⟨by rw [List.length_map, List.length_range], fun d hd => ?_⟩
    obtain ⟨k, _, rfl⟩ := List.mem_map.1 hd
    exact ⟨Int.emod_nonneg _ (by omega), Int.emod_lt_of_pos _ hm⟩
  · exact digB_ok hm n cell
def R_law_digits : List D → D → Prop := fun ds r => ∃ (cell m : Int) (n : Nat), ds = [.t (.int cell), .t (.int n), .t (.int m)] ∧ r = .l (intsT (digM cell n m)) ∧ 0 < m ∧ m < 1000000 ∧ n ≤ 1000
theorem ok_law_digits (T : Txt K mg) : FnOk P w K mg base CX0 2 T.a_law_digits T.fd_law_digits ["cell", "count", "many"] (spD K R_law_digits) := by
  refine fn_d T.F_law_digits sc_law_digits (fun ds r h => ?_) (fun cdv A outer s H E hr => ?_)
  · obtain ⟨cell, m, n, rfl, _⟩ := h
    rfl
  · have hu := hr.units
    have G_law_mixed : FnOk P w K mg base CX0 1 T.a_law_mixed T.fd_law_mixed ["cell", "k"] (spD K R_law_mixed) := ok_law_mixed T
    refine ⟨_, (pss_cons (ps_set (i := 3) sc_law_digits.nd rfl (by first | exact Or.inl rfl | exact Or.inr rfl) (pe_lst pa_nil))
    (pss_cons (ps_if (pt_cmpR op_lt (pv 0) (pe_op op_pow pe_int pe_int) (nomark _)) (pss_cons (ps_for PassesOwn.never rfl (pi_range1 (by rfl) T.z_range (pa_cons (pv 1) pa_nil)) (pg_name (i := 4) sc_law_digits.nd rfl (by first | exact Or.inl rfl | exact Or.inr rfl)) (pss_one (ps_expr (pe_bm PySem.F.plainAttrs_list PySem.F.slot_list_append PySem.F.type_list_append mt_append (pv 3) (pa_cons (pe_op op_mod (pe_callTy call_int1 (by rfl) T.z_int (by decide +kernel) (pa_cons (pe_call G_law_mixed (hr.mono (by decide)) (by rfl) T.g_law_mixed T.F_law_mixed.kp T.b_law_mixed .nil pass0 (pa_cons (pv 0) (pa_cons (pv 4) pa_nil))) pa_nil)) (pv 2)) pa_nil)))))
    (pss_one (ps_ret (pv 3)))) pss_nil)
    (pss_cons (ps_for PassesOwn.never rfl (pi_range1 (by rfl) T.z_range (pa_cons (pv 1) pa_nil)) (pg_name (i := 4) sc_law_digits.nd rfl (by first | exact Or.inl rfl | exact Or.inr rfl)) (pss_cons (ps_expr (pe_bm PySem.F.plainAttrs_list PySem.F.slot_list_append PySem.F.type_list_append mt_append (pv 3) (pa_cons (pe_op op_mod (pe_callTy call_int1 (by rfl) T.z_int (by decide +kernel) (pa_cons (pv 0) pa_nil)) (pv 2)) pa_nil)))
    (pss_one (ps_set (i := 0) sc_law_digits.nd rfl (by first | exact Or.inl rfl | exact Or.inr rfl) (pe_op op_fdivW (pv 0) (pv 2))))))
    (pss_one (ps_ret (pv 3)))))), fun ds r h => ?_⟩
    obtain ⟨cell, m, n, rfl, rfl, hm0, hm1, hn⟩ := h
    show Sv K W0 _ [D.t (.int cell), D.t (.int n), D.t (.int m), D.no, D.no] _
    refine sv_then [D.t (.int cell), D.t (.int n), D.t (.int m), D.own [], D.no] (sv_setF (xs := []) (evf_lsts evt_nil (le_ok rfl)) rfl) ?_
    have e18 : (10 : Int) ^ (18 : Int).toNat = 1000000000000000000 := by decide
    by_cases hc : cell < 1000000000000000000
    · have eD : digM cell n m = (List.range n).map fun (k : Nat) => mixM cell (k : Int) % m := if_pos hc
      rw [eD]
      refine sv_seq (fun _ => False) (sv_if (b := true) (evb_eq (evb_test (ev_lt (ev_var rfl) (ev_pow ev_int ev_int ⟨by decide, by decide, by decide⟩))) (decide_eq_true (by rw [e18]; exact hc))) (fun _ => ?_) (fun z => nomatch z)) (fun _ z => z.elim)
      refine sv_seq (fun G => ∃ d4, G = [D.t (.int cell), D.t (.int n), D.t (.int m), D.own (intsT ((List.range n).map fun (k : Nat) => mixM cell (k : Int) % m)), d4]) ?_ ?_
      · refine sv_range1 (n := (n : Int)) (fun i G => ∃ d4, G = [D.t (.int cell), D.t (.int n), D.t (.int m), D.own (intsT ((List.range i).map fun (k : Nat) => mixM cell (k : Int) % m)), d4]) (ev_var rfl) (by omega) ⟨_, rfl⟩ ?_ (fun G h => h)
        rintro i G hi ⟨d4, rfl⟩
        have hi : i < n := by omega
        refine ⟨_, gd_name 4 _, ?_⟩
        refine sv_append rfl (ev_mod (ev_int1 (ev_call (eva_t (ev_var rfl) (eva_t (ev_var rfl) eva_nil)) (by exact ⟨cell, (i : Int), rfl, rfl⟩))) (ev_var rfl) hm0) (by rw [intsT_len, List.length_map, List.length_range]; omega) ⟨D.t (.int i), ?_⟩
        rw [List.range_succ, List.map_append]
        show _ = [D.t (.int cell), D.t (.int n), D.t (.int m), D.own (intsT (((List.range i).map fun (k : Nat) => mixM cell (k : Int) % m) ++ [mixM cell (i : Int) % m])), D.t (.int i)]
        rw [intsT_snoc]
        rfl
      · rintro G ⟨d4, rfl⟩
        exact sv_retO rfl rfl
    · have eD : digM cell n m = digB m cell n := if_neg hc
      rw [eD]
      refine sv_then [D.t (.int cell), D.t (.int n), D.t (.int m), D.own [], D.no] (sv_if (b := false) (evb_eq (evb_test (ev_lt (ev_var rfl) (ev_pow ev_int ev_int ⟨by decide, by decide, by decide⟩))) (decide_eq_false (by rw [e18]; exact hc))) (fun z => nomatch z) (fun _ => sv_next rfl)) ?_
      refine sv_seq (fun G => ∃ c d4, G = [D.t (.int c), D.t (.int n), D.t (.int m), D.own (intsT (digB m cell n)), d4]) ?_ ?_
      · refine sv_range1 (n := (n : Int)) (fun i G => ∃ (c : Int) (l : List Int) (d4 : D), G = [D.t (.int c), D.t (.int n), D.t (.int m), D.own (intsT l), d4] ∧ l ++ digB m c (n - i) = digB m cell n ∧ l.length = i) (ev_var rfl) (by omega) ⟨cell, [], _, rfl, rfl, rfl⟩ ?_ ?_
        · rintro i G hi ⟨c, l, d4, rfl, hl, hll⟩
          have hi : i < n := by omega
          obtain ⟨f, hf⟩ : ∃ f, n - i = f + 1 := ⟨n - i - 1, by omega⟩
          have hf2 : n - (i + 1) = f := by omega
          rw [hf] at hl
          rw [hf2]
          refine ⟨_, gd_name 4 _, ?_⟩
          show Sv K W0 _ [D.t (.int c), D.t (.int n), D.t (.int m), D.own (intsT l), D.t (.int i)] _
          refine sv_then [D.t (.int c), D.t (.int n), D.t (.int m), D.own (intsT (l ++ [c % m])), D.t (.int i)] (sv_append rfl (ev_mod (ev_int1 (ev_var rfl)) (ev_var rfl) hm0) (by rw [intsT_len]; omega) (by rw [intsT_snoc]; rfl)) ?_
          refine sv_set (ev_fdivW (ev_var rfl) (ev_var rfl) ⟨hm0, ?_⟩) ⟨c / m, l ++ [c % m], _, rfl, ?_, by rw [List.length_append, hll]; rfl⟩
          · have : m.natAbs < 2 ^ 20 := by omega
            have := (Nat.log2_lt (by omega)).2 this
            omega
          · rw [← hl]
            show (l ++ [c % m]) ++ digB m (c / m) f = l ++ (c % m :: digB m (c / m) f)
            rw [List.append_assoc]
            rfl
        · rintro G ⟨c, l, d4, rfl, hl, hll⟩
          have e0 : n - (n : Int).toNat = 0 := by omega
          rw [e0] at hl
          have hl : l ++ [] = digB m cell n := hl
          rw [List.append_nil] at hl
          exact ⟨c, d4, by rw [← hl]⟩
      · rintro G ⟨c, d4, rfl⟩
        exact sv_retO rfl rfl


theorem sc_law_product : FnScope ["table", "v", "w", "total", "i"] ["table", "v", "w"] (defScope s_law_product) := ⟨rfl, rfl, rfl, by decide +kernel, rfl, by decide +kernel, by decide +kernel⟩
def R_law_product : List D → D → Prop := fun ds r => ∃ (m : Mat) (v u : Row) (n k j : Nat), ds = [.t (mat m), .t (row v), .t (row u)] ∧ r = .t (.int (dot v (image m u))) ∧ m.sm n ∧ v.sm k ∧ u.sm j ∧ n ≤ 20000 ∧ k ≤ 20000 ∧ j ≤ 20000
theorem ok_law_product (T : Txt K mg) : FnOk P w K mg base CX0 1 T.a_law_product T.fd_law_product ["table", "v", "w"] (spD K R_law_product) := by
  refine fn_d T.F_law_product sc_law_product (fun ds r h => ?_) (fun cdv A outer s H E hr => ?_)
  · obtain ⟨m, v, u, n, k, j, rfl, _⟩ := h
    rfl
  · have hu := hr.units
    refine ⟨_, (pss_cons (ps_set (i := 3) sc_law_product.nd rfl (by first | exact Or.inl rfl | exact Or.inr rfl) pe_int)
    (pss_cons (ps_for PassesOwn.never rfl (pi_range1 (by rfl) T.z_range (pa_cons pe_int pa_nil)) (pg_name (i := 4) sc_law_product.nd rfl (by first | exact Or.inl rfl | exact Or.inr rfl)) (pss_one (ps_set (i := 3) sc_law_product.nd rfl (by first | exact Or.inl rfl | exact Or.inr rfl) (pe_op op_add (pv 3) (pe_op op_mulW (pk_ixT K (pv 1) (pv 4) (fun _ _ => rfl)) (pe_op op_add (pe_op op_add (pe_op op_mulW (pk_ixT K (pk_ixT K (pv 0) (pv 4) (fun _ _ => rfl)) pe_int (fun _ _ => rfl)) (pk_ixT K (pv 2) pe_int (fun _ _ => rfl))) (pe_op op_mulW (pk_ixT K (pk_ixT K (pv 0) (pv 4) (fun _ _ => rfl)) pe_int (fun _ _ => rfl)) (pk_ixT K (pv 2) pe_int (fun _ _ => rfl)))) (pe_op op_mulW (pk_ixT K (pk_ixT K (pv 0) (pv 4) (fun _ _ => rfl)) pe_int (fun _ _ => rfl)) (pk_ixT K (pv 2) pe_int (fun _ _ => rfl)))))))))
    (pss_one (ps_ret (pv 3))))), fun ds r h => ?_⟩
    obtain ⟨m, v, u, n, k, j, rfl, rfl, hm, hv, hu, hn, hk, hj⟩ := h
    show Sv K W0 _ [D.t (mat m), D.t (row v), D.t (row u), D.no, D.no] _
    refine sv_then [D.t (mat m), D.t (row v), D.t (row u), D.t (.int 0), D.no] (sv_set ev_int rfl) ?_
    have st : ∀ {Po' : Po} (i : Int) (w : Int) (a : Row) (tot : Int), L2.atI [Cz.T.int v.x, .int v.y, .int v.z] i = some (.int w) → L2.atI [row m.a, row m.b, row m.c] i = some (row a) → a.sm n → Sm k w → Po'.nx [D.t (mat m), D.t (row v), D.t (row u), D.t (.int (tot + w * dot a u)), D.t (.int i)] →
        Sv K W0 (tAsg (tOp (rI0 fun i j => .int (i + j)) (tVar 3) (tOp (rI CMulW fun i j => .int (i * j)) (tOp (rIxT K) (tVar 1) (tVar 4)) (tOp (rI0 fun i j => .int (i + j)) (tOp (rI0 fun i j => .int (i + j)) (tOp (rI CMulW fun i j => .int (i * j)) (tOp (rIxT K) (tOp (rIxT K) (tVar 0) (tVar 4)) (tC (.int 0))) (tOp (rIxT K) (tVar 2) (tC (.int 0)))) (tOp (rI CMulW fun i j => .int (i * j)) (tOp (rIxT K) (tOp (rIxT K) (tVar 0) (tVar 4)) (tC (.int 1))) (tOp (rIxT K) (tVar 2) (tC (.int 1))))) (tOp (rI CMulW fun i j => .int (i * j)) (tOp (rIxT K) (tOp (rIxT K) (tVar 0) (tVar 4)) (tC (.int 2))) (tOp (rIxT K) (tVar 2) (tC (.int 2))))))) (gName 3))
          [D.t (mat m), D.t (row v), D.t (row u), D.t (.int tot), D.t (.int i)] Po' := fun {Po'} i w a tot h1 h2 ha hw hn2 =>
      sv_set (x := .int (tot + w * dot a u)) (ev_add (ev_var rfl) (ev_mul (ev_ixT (ev_var rfl) (ev_var rfl) h1) (ev_eq (ev_add (ev_add (ev_mul (ev_ixT (ev_ixT (ev_var rfl) (ev_var rfl) h2) ev_int (by rfl)) (ev_ixT (ev_var rfl) ev_int (by rfl)) (by walk_at "smk")) (ev_mul (ev_ixT (ev_ixT (ev_var rfl) (ev_var rfl) h2) ev_int (by rfl)) (ev_ixT (ev_var rfl) ev_int (by rfl)) (by walk_at "smk"))) (ev_mul (ev_ixT (ev_ixT (ev_var rfl) (ev_var rfl) h2) ev_int (by rfl)) (ev_ixT (ev_var rfl) ev_int (by rfl)) (by walk_at "smk"))) rfl) (Cz.Sm.mulok hw (Cz.sm_dot ha hu) (by omega)))) hn2
    refine sv_then [D.t (mat m), D.t (row v), D.t (row u), D.t (.int (0 + v.x * dot m.a u + v.y * dot m.b u + v.z * dot m.c u)), D.t (.int 2)] (sv_range3 (G1 := [D.t (mat m), D.t (row v), D.t (row u), D.t (.int (0 + v.x * dot m.a u)), D.t (.int 0)]) (G2 := [D.t (mat m), D.t (row v), D.t (row u), D.t (.int (0 + v.x * dot m.a u + v.y * dot m.b u)), D.t (.int 1)]) (G3 := [D.t (mat m), D.t (row v), D.t (row u), D.t (.int (0 + v.x * dot m.a u + v.y * dot m.b u + v.z * dot m.c u)), D.t (.int 2)]) (st 0 v.x m.a 0 rfl rfl hm.a hv.x rfl) (st 1 v.y m.b _ rfl rfl hm.b hv.y rfl) (st 2 v.z m.c _ rfl rfl hm.c hv.z rfl) rfl) ?_
    refine sv_ret (ev_var rfl) ?_
    show D.t (.int _) = D.t (.int _)
    rw [Int.zero_add]
    rfl
local macro_rules | `(tactic| walk_at "R_law_product") => `(tactic| exact ⟨_, _, _, _, _, _, rfl, rfl, by walk_at "sm", by walk_at "sm", by walk_at "sm", by first | decide | omega, by first | decide | omega, by first | decide | omega⟩)
theorem sc_law_image : FnScope ["matrix", "row", "line"] ["matrix", "row"] (defScope s_law_image) := ⟨rfl, rfl, rfl, by decide +kernel, rfl, by decide +kernel, by decide +kernel⟩
def R_law_image : List D → D → Prop := fun ds r => ∃ (m : Mat) (v : Row) (n k : Nat), ds = [.t (mat m), .t (row v)] ∧ r = .t (row (image m v)) ∧ m.sm n ∧ v.sm k ∧ n ≤ 90000 ∧ k ≤ 90000
theorem ok_law_image (T : Txt K mg) : FnOk P w K mg base CX0 1 T.a_law_image T.fd_law_image ["matrix", "row"] (spD K R_law_image) := by
  refine fn_d T.F_law_image sc_law_image (fun ds r h => ?_) (fun cdv A outer s H E hr => ?_)
  · obtain ⟨m, v, n, k, rfl, _⟩ := h
    rfl
  · have hu := hr.units
    refine ⟨_, (pss_one (ps_ret (pk_tupleOf K (by rfl) T.z_tuple (pe_lc (own := [("line", 2)]) (g := (gName 2)) rfl sc_law_image.nd (pki_tup K (pv 0)) (blkOk_by (own := [("line", 2)]) (N := ["matrix", "row", "line"]) (sc := defScope s_law_image) (by decide +kernel)) (fun _ _ _ _ _ => (pg_name (i := 2) sc_law_image.nd rfl (by first | exact Or.inl rfl | exact Or.inr rfl))) (fun _ _ _ _ _ => pts_nil) (fun _ _ _ _ _ => (pe_op op_add (pe_op op_add (pe_op op_mulW (pk_ixT K (pv 2) pe_int (fun _ _ => rfl)) (pk_ixT K (pv 1) pe_int (fun _ _ => rfl))) (pe_op op_mulW (pk_ixT K (pv 2) pe_int (fun _ _ => rfl)) (pk_ixT K (pv 1) pe_int (fun _ _ => rfl)))) (pe_op op_mulW (pk_ixT K (pv 2) pe_int (fun _ _ => rfl)) (pk_ixT K (pv 1) pe_int (fun _ _ => rfl))))))))), fun ds r h => ?_⟩
    obtain ⟨m, v, n, k, rfl, rfl, hm, hk, hn, hn2⟩ := h
    show Sv K W0 _ [D.t (mat m), D.t (row v), D.no] _
    refine (sv_ret (ev_asrow (ev_tupleL (evl_f (evf_lcT3 (ev_var rfl) (ev_add (ev_add (ev_mul (ev_ixT (ev_var rfl) ev_int (by rfl)) (ev_ixT (ev_var rfl) ev_int (by rfl)) (by walk_at "smk")) (ev_mul (ev_ixT (ev_var rfl) ev_int (by rfl)) (ev_ixT (ev_var rfl) ev_int (by rfl)) (by walk_at "smk"))) (ev_mul (ev_ixT (ev_var rfl) ev_int (by rfl)) (ev_ixT (ev_var rfl) ev_int (by rfl)) (by walk_at "smk"))) (ev_add (ev_add (ev_mul (ev_ixT (ev_var rfl) ev_int (by rfl)) (ev_ixT (ev_var rfl) ev_int (by rfl)) (by walk_at "smk")) (ev_mul (ev_ixT (ev_var rfl) ev_int (by rfl)) (ev_ixT (ev_var rfl) ev_int (by rfl)) (by walk_at "smk"))) (ev_mul (ev_ixT (ev_var rfl) ev_int (by rfl)) (ev_ixT (ev_var rfl) ev_int (by rfl)) (by walk_at "smk"))) (ev_add (ev_add (ev_mul (ev_ixT (ev_var rfl) ev_int (by rfl)) (ev_ixT (ev_var rfl) ev_int (by rfl)) (by walk_at "smk")) (ev_mul (ev_ixT (ev_var rfl) ev_int (by rfl)) (ev_ixT (ev_var rfl) ev_int (by rfl)) (by walk_at "smk"))) (ev_mul (ev_ixT (ev_var rfl) ev_int (by rfl)) (ev_ixT (ev_var rfl) ev_int (by rfl)) (by walk_at "smk"))))))) ?_)
    rfl
local macro_rules | `(tactic| walk_at "R_law_image") => `(tactic| exact ⟨_, _, _, _, rfl, rfl, by walk_at "sm", by walk_at "sm", by first | decide | omega, by first | decide | omega⟩)

--@IMPORT NA@
theorem sc_law_units : FnScope [] [] (defScope s_law_units) := ⟨rfl, rfl, rfl, by decide +kernel, rfl, by decide +kernel, by decide +kernel⟩
def R_law_units : List D → D → Prop := fun ds r => ds = [] ∧ r = .t (mat one)
theorem ok_law_units (T : Txt K mg) : FnOk P w K mg base CX0 1 T.a_law_units T.fd_law_units [] (spD K R_law_units) := by
  refine fn_d T.F_law_units sc_law_units (fun ds r h => ?_) (fun cdv A outer s H E hr => ?_)
  · obtain ⟨rfl, _⟩ := h
    rfl
  · have hu := hr.units
    refine ⟨_, (pss_one (ps_ret (pe_tup (pa_cons (pe_tup (pa_cons pe_int (pa_cons pe_int (pa_cons pe_int pa_nil)))) (pa_cons (pe_tup (pa_cons pe_int (pa_cons pe_int (pa_cons pe_int pa_nil)))) (pa_cons (pe_tup (pa_cons pe_int (pa_cons pe_int (pa_cons pe_int pa_nil)))) pa_nil)))))), fun ds r h => ?_⟩
    obtain ⟨rfl, rfl⟩ := h
    exact sv_ret (x := mat one) (ev_mat (ev_row ev_int ev_int ev_int) (ev_row ev_int ev_int ev_int) (ev_row ev_int ev_int ev_int)) rfl
theorem sc_law_moves : FnScope ["digits", "matrix", "back", "digit", "i", "j", "k", "step", "undo", "columns", "row", "at", "column", "line"] ["digits"] (defScope s_law_moves) := ⟨rfl, rfl, rfl, by decide +kernel, rfl, by decide +kernel, by decide +kernel⟩
def R_law_moves : List D → D → Prop := fun ds r => ∃ (ns : List Int), ds = [.l (intsT ns)] ∧ r = .t (.tup [mat (movM ns).1, mat (movM ns).2]) ∧ ns.length ≤ 20
theorem ok_law_moves (T : Txt K mg) : FnOk P w K mg base CX0 2 T.a_law_moves T.fd_law_moves ["digits"] (spD K R_law_moves) := by
  refine fn_d T.F_law_moves sc_law_moves (fun ds r h => ?_) (fun cdv A outer s H E hr => ?_)
  · obtain ⟨ns, rfl, _⟩ := h
    rfl
  · have hu := hr.units
    have G_law_units : FnOk P w K mg base CX0 1 T.a_law_units T.fd_law_units [] (spD K R_law_units) := ok_law_units T
    have G_law_image : FnOk P w K mg base CX0 1 T.a_law_image T.fd_law_image ["matrix", "row"] (spD K R_law_image) := ok_law_image T
    refine ⟨_, (pss_cons (ps_asg (pe_tup (pa_cons (pe_call0 G_law_units (hr.mono (by decide)) (by rfl) T.g_law_units T.F_law_units.kp T.b_law_units .nil pass0) (pa_cons (pe_call0 G_law_units (hr.mono (by decide)) (by rfl) T.g_law_units T.F_law_units.kp T.b_law_units .nil pass0) pa_nil))) (pgk_tup K rfl (pgs_cons (pg_name (i := 1) sc_law_moves.nd rfl (by first | exact Or.inl rfl | exact Or.inr rfl)) (pgs_cons (pg_name (i := 2) sc_law_moves.nd rfl (by first | exact Or.inl rfl | exact Or.inr rfl)) pgs_nil))))
    (pss_cons (ps_for PassesOwn.never rfl (pki_list K (pv 0)) (pg_name (i := 3) sc_law_moves.nd rfl (by first | exact Or.inl rfl | exact Or.inr rfl)) (pss_cons (ps_par3 (i := 4) (j := 5) (l := 6) (by rfl) sc_law_moves.nd rfl rfl rfl (by decide) (by decide) (by decide) rfl rfl rfl (pa_cons (pe_op op_mod (pe_callTy call_int1 (by rfl) T.z_int (by decide +kernel) (pa_cons (pv 3) pa_nil)) pe_int) (pa_cons (pe_op op_mod (pe_callTy call_int1 (by rfl) T.z_int (by decide +kernel) (pa_cons (pe_op op_fdiv (pv 3) pe_int) pa_nil)) pe_int) (pa_cons (pe_op op_sub (pe_op op_mod (pe_callTy call_int1 (by rfl) T.z_int (by decide +kernel) (pa_cons (pe_op op_fdiv (pv 3) pe_int) pa_nil)) pe_int) pe_int) pa_nil))) (by rfl))
    (pss_one (ps_if (PW.pt (pw_and (pt_cmpR op_ne (pv 4) (pv 5) (nomark _)) (pw_and1 (pt_cmpR op_ne (pv 6) pe_int (nomark _))))) (pss_cons (ps_set (i := 7) sc_law_moves.nd rfl (by first | exact Or.inl rfl | exact Or.inr rfl) (pe_lc (own := [("row", 10)]) (g := (gName 10)) rfl sc_law_moves.nd (pki_tup K (pe_call0 G_law_units (hr.mono (by decide)) (by rfl) T.g_law_units T.F_law_units.kp T.b_law_units .nil pass0)) (blkOk_by (own := [("row", 10)]) (N := ["digits", "matrix", "back", "digit", "i", "j", "k", "step", "undo", "columns", "row", "at", "column", "line"]) (sc := defScope s_law_moves) (by decide +kernel)) (fun _ _ _ _ _ => (pg_name (i := 10) sc_law_moves.nd rfl (by first | exact Or.inl rfl | exact Or.inr rfl))) (fun _ _ _ _ _ => pts_nil) (fun _ _ _ _ _ => (pe_callTy (ck_listOf K) (by rfl) T.z_list (by decide +kernel) (pa_cons (pv 10) pa_nil)))))
    (pss_cons (ps_asg (pv 6) (pg_sub (pk_ixL K (pv 7) (pv 4) (fun _ _ => rfl)) (pv 5) set_list))
    (pss_cons (ps_set (i := 8) sc_law_moves.nd rfl (by first | exact Or.inl rfl | exact Or.inr rfl) (pe_lc (own := [("row", 10)]) (g := (gName 10)) rfl sc_law_moves.nd (pki_tup K (pe_call0 G_law_units (hr.mono (by decide)) (by rfl) T.g_law_units T.F_law_units.kp T.b_law_units .nil pass0)) (blkOk_by (own := [("row", 10)]) (N := ["digits", "matrix", "back", "digit", "i", "j", "k", "step", "undo", "columns", "row", "at", "column", "line"]) (sc := defScope s_law_moves) (by decide +kernel)) (fun _ _ _ _ _ => (pg_name (i := 10) sc_law_moves.nd rfl (by first | exact Or.inl rfl | exact Or.inr rfl))) (fun _ _ _ _ _ => pts_nil) (fun _ _ _ _ _ => (pe_callTy (ck_listOf K) (by rfl) T.z_list (by decide +kernel) (pa_cons (pv 10) pa_nil)))))
    (pss_cons (ps_asg (pe_op op_sub pe_int (pv 6)) (pg_sub (pk_ixL K (pv 8) (pv 4) (fun _ _ => rfl)) (pv 5) set_list))
    (pss_cons (ps_set (i := 9) sc_law_moves.nd rfl (by first | exact Or.inl rfl | exact Or.inr rfl) (pe_lc (own := [("at", 11)]) (g := (gName 11)) rfl sc_law_moves.nd (pi_range1 (by rfl) T.z_range (pa_cons pe_int pa_nil)) (blkOk_by (own := [("at", 11)]) (N := ["digits", "matrix", "back", "digit", "i", "j", "k", "step", "undo", "columns", "row", "at", "column", "line"]) (sc := defScope s_law_moves) (by decide +kernel)) (fun _ _ _ _ _ => (pg_name (i := 11) sc_law_moves.nd rfl (by first | exact Or.inl rfl | exact Or.inr rfl))) (fun _ _ _ _ _ => pts_nil) (fun _ _ _ _ _ => (pe_call G_law_image (hr.mono (by decide)) (by rfl) T.g_law_image T.F_law_image.kp T.b_law_image .nil pass0 (pa_cons (pv 1) (pa_cons (pk_tupleOf K (by rfl) T.z_tuple (pe_lc (own := [("row", 10)]) (g := (gName 10)) rfl sc_law_moves.nd (pi_range1 (by rfl) T.z_range (pa_cons pe_int pa_nil)) (blkOk_by (own := [("row", 10)]) (by with_unfolding_all rfl)) (fun _ _ _ _ _ => (pg_name (i := 10) sc_law_moves.nd rfl (by first | exact Or.inl rfl | exact Or.inr rfl))) (fun _ _ _ _ _ => pts_nil) (fun _ _ _ _ _ => (pk_ixL K (pk_ixL K (pv 7) (pv 10) (fun _ _ => rfl)) (pv 11) (fun _ _ => rfl))))) pa_nil))))))
    (pss_cons (ps_set (i := 1) sc_law_moves.nd rfl (by first | exact Or.inl rfl | exact Or.inr rfl) (pk_tupleOf K (by rfl) T.z_tuple (pe_lc (own := [("row", 10)]) (g := (gName 10)) rfl sc_law_moves.nd (pi_range1 (by rfl) T.z_range (pa_cons pe_int pa_nil)) (blkOk_by (own := [("row", 10)]) (N := ["digits", "matrix", "back", "digit", "i", "j", "k", "step", "undo", "columns", "row", "at", "column", "line"]) (sc := defScope s_law_moves) (by decide +kernel)) (fun _ _ _ _ _ => (pg_name (i := 10) sc_law_moves.nd rfl (by first | exact Or.inl rfl | exact Or.inr rfl))) (fun _ _ _ _ _ => pts_nil) (fun _ _ _ _ _ => (pk_tupleOf K (by rfl) T.z_tuple (pe_lc (own := [("column", 12)]) (g := (gName 12)) rfl sc_law_moves.nd (pki_list K (pv 9)) (blkOk_by (own := [("column", 12)]) (by with_unfolding_all rfl)) (fun _ _ _ _ _ => (pg_name (i := 12) sc_law_moves.nd rfl (by first | exact Or.inl rfl | exact Or.inr rfl))) (fun _ _ _ _ _ => pts_nil) (fun _ _ _ _ _ => (pk_ixT K (pv 12) (pv 10) (fun _ _ => rfl)))))))))
    (pss_cons (ps_set (i := 9) sc_law_moves.nd rfl (by first | exact Or.inl rfl | exact Or.inr rfl) (pe_lc (own := [("at", 11)]) (g := (gName 11)) rfl sc_law_moves.nd (pi_range1 (by rfl) T.z_range (pa_cons pe_int pa_nil)) (blkOk_by (own := [("at", 11)]) (N := ["digits", "matrix", "back", "digit", "i", "j", "k", "step", "undo", "columns", "row", "at", "column", "line"]) (sc := defScope s_law_moves) (by decide +kernel)) (fun _ _ _ _ _ => (pg_name (i := 11) sc_law_moves.nd rfl (by first | exact Or.inl rfl | exact Or.inr rfl))) (fun _ _ _ _ _ => pts_nil) (fun _ _ _ _ _ => (pe_call G_law_image (hr.mono (by decide)) (by rfl) T.g_law_image T.F_law_image.kp T.b_law_image .nil pass0 (pa_cons (pk_tupleOf K (by rfl) T.z_tuple (pe_lc (own := [("row", 10)]) (g := (gName 10)) rfl sc_law_moves.nd (pki_list K (pv 8)) (blkOk_by (own := [("row", 10)]) (by with_unfolding_all rfl)) (fun _ _ _ _ _ => (pg_name (i := 10) sc_law_moves.nd rfl (by first | exact Or.inl rfl | exact Or.inr rfl))) (fun _ _ _ _ _ => pts_nil) (fun _ _ _ _ _ => (pk_tupleOf K (by rfl) T.z_tuple (pv 10))))) (pa_cons (pk_tupleOf K (by rfl) T.z_tuple (pe_lc (own := [("line", 13)]) (g := (gName 13)) rfl sc_law_moves.nd (pki_tup K (pv 2)) (blkOk_by (own := [("line", 13)]) (by with_unfolding_all rfl)) (fun _ _ _ _ _ => (pg_name (i := 13) sc_law_moves.nd rfl (by first | exact Or.inl rfl | exact Or.inr rfl))) (fun _ _ _ _ _ => pts_nil) (fun _ _ _ _ _ => (pk_ixT K (pv 13) (pv 11) (fun _ _ => rfl))))) pa_nil))))))
    (pss_one (ps_set (i := 2) sc_law_moves.nd rfl (by first | exact Or.inl rfl | exact Or.inr rfl) (pk_tupleOf K (by rfl) T.z_tuple (pe_lc (own := [("row", 10)]) (g := (gName 10)) rfl sc_law_moves.nd (pi_range1 (by rfl) T.z_range (pa_cons pe_int pa_nil)) (blkOk_by (own := [("row", 10)]) (N := ["digits", "matrix", "back", "digit", "i", "j", "k", "step", "undo", "columns", "row", "at", "column", "line"]) (sc := defScope s_law_moves) (by decide +kernel)) (fun _ _ _ _ _ => (pg_name (i := 10) sc_law_moves.nd rfl (by first | exact Or.inl rfl | exact Or.inr rfl))) (fun _ _ _ _ _ => pts_nil) (fun _ _ _ _ _ => (pk_tupleOf K (by rfl) T.z_tuple (pe_lc (own := [("column", 12)]) (g := (gName 12)) rfl sc_law_moves.nd (pki_list K (pv 9)) (blkOk_by (own := [("column", 12)]) (by with_unfolding_all rfl)) (fun _ _ _ _ _ => (pg_name (i := 12) sc_law_moves.nd rfl (by first | exact Or.inl rfl | exact Or.inr rfl))) (fun _ _ _ _ _ => pts_nil) (fun _ _ _ _ _ => (pk_ixT K (pv 12) (pv 10) (fun _ _ => rfl))))))))))))))))) pss_nil))))
    (pss_one (ps_ret (pe_tup (pa_cons (pv 1) (pa_cons (pv 2) pa_nil))))))), fun ds r h => ?_⟩
    obtain ⟨ns, rfl, rfl, hl⟩ := h
    show Sv K W0 _ [D.l (intsT ns), D.no, D.no, D.no, D.no, D.no, D.no, D.no, D.no, D.no, D.no, D.no, D.no, D.no] _
    have un : ∀ {Γ : List D} {Ex : XK}, Ev K (tCall (spD K R_law_units) [] Ex tNil) Γ (mat one) := fun {Γ Ex} => ev_call eva_nil (by exact ⟨rfl, rfl⟩)
    refine sv_then [D.l (intsT ns), D.t (mat one), D.t (mat one), D.no, D.no, D.no, D.no, D.no, D.no, D.no, D.no, D.no, D.no, D.no] (sv_asg (x := .tup [mat one, mat one]) (ev_tups (evt_cons un (evt_cons un evt_nil)) (le_ok rfl)) (gd_tup rfl (gds_cons (gd_name 1 _) (gds_cons (gd_name 2 _) gds_nil))) rfl) ?_
    refine sv_seq (fun G => ∃ (M B : Mat) (d3 d4 d5 d6 d7 d8 d9 : D), G = [D.l (intsT ns), D.t (mat M), D.t (mat B), d3, d4, d5, d6, d7, d8, d9, D.no, D.no, D.no, D.no] ∧ (M, B) = movM ns) ?_ ?_
    · refine sv_forV (k := 0) (xs := intsT ns) (fun n G => ∃ (M B : Mat) (d3 d4 d5 d6 d7 d8 d9 : D), G = [D.l (intsT ns), D.t (mat M), D.t (mat B), d3, d4, d5, d6, d7, d8, d9, D.no, D.no, D.no, D.no] ∧ (M, B) = movM (ns.take n)) rfl ⟨one, one, _, _, _, _, _, _, _, rfl, rfl⟩ ?_ (fun G ⟨M, B, d3, d4, d5, d6, d7, d8, d9, e1, e2⟩ => ⟨M, B, d3, d4, d5, d6, d7, d8, d9, e1, by rw [e2, intsT_len, List.take_length]⟩)
      rintro n x G hx ⟨M, B, d3, d4, d5, d6, d7, d8, d9, rfl, hMB⟩
      unfold intsT at hx
      rw [List.getElem?_map] at hx
      obtain ⟨d, hd1, rfl⟩ := Option.map_eq_some_iff.mp hx
      have hn : n < ns.length := (List.getElem?_eq_some_iff.mp hd1).1
      have hsm := movM_sm (ns.take n)
      rw [← hMB] at hsm
      have hlt : (ns.take n).length ≤ 20 := by rw [List.length_take]; omega
      have hM : M.sm 90 := hsm.1.mono (by omega)
      have hB : B.sm 90 := hsm.2.mono (by omega)
      have hst : movM (ns.take (n + 1)) = movS (M, B) d := by
        rw [take_snoc hd1, hMB]
        unfold movM
        rw [List.foldl_append]
        rfl
      rw [hst]
      clear hst hsm hMB hlt hd1 hx
      refine ⟨_, gd_name 3 _, ?_⟩
      show Sv K W0 _ [D.l (intsT ns), D.t (mat M), D.t (mat B), D.t (.int d), d4, d5, d6, d7, d8, d9, D.no, D.no, D.no, D.no] _
      have hi0 : 0 ≤ dgI d ∧ dgI d < 3 := ⟨Int.emod_nonneg _ (by decide), Int.emod_lt_of_pos _ (by decide)⟩
      have hj0 : 0 ≤ dgJ d ∧ dgJ d < 3 := ⟨Int.emod_nonneg _ (by decide), Int.emod_lt_of_pos _ (by decide)⟩
      have hk0 := dgK_cases d
      refine sv_then [D.l (intsT ns), D.t (mat M), D.t (mat B), D.t (.int d), D.t (.int (dgI d)), D.t (.int (dgJ d)), D.t (.int (dgK d)), d7, d8, d9, D.no, D.no, D.no, D.no] (sv_par3 (x := .int (dgI d)) (y := .int (dgJ d)) (z := .int (dgK d)) (ev_mod (ev_int1 (ev_var rfl)) ev_int (by decide)) (ev_mod (ev_int1 (ev_fdiv (ev_var rfl) ev_int ⟨by decide, by decide⟩)) ev_int (by decide)) (ev_sub (ev_mod (ev_int1 (ev_fdiv (ev_var rfl) ev_int ⟨by decide, by decide⟩)) ev_int (by decide)) ev_int) rfl) ?_
      unfold movS
      generalize dgI d = i at *
      generalize dgJ d = j at *
      generalize dgK d = k at *
      refine sv_if (b := !decide (i = j) && !decide (k = 0)) (evb_and2 (evb_test (ev_neI (ev_var rfl) (ev_var rfl))) (evb_test (ev_neI (ev_var rfl) ev_int))) (fun hc => ?_) (fun hc => ?_)
      rotate_left
      · rw [if_neg (fun z => by rw [decide_eq_false z.1, decide_eq_false z.2] at hc; cases hc)]
        exact sv_next ⟨M, B, _, _, _, _, _, _, _, rfl, rfl⟩
      have hne : i ≠ j ∧ k ≠ 0 := by
        rw [Bool.and_eq_true, Bool.not_eq_true', Bool.not_eq_true', decide_eq_false_iff_not, decide_eq_false_iff_not] at hc
        exact hc
      rw [if_pos hne]
      have ixn : ∀ {x : Int}, 0 ≤ x ∧ x < 3 → ixN 3 x = some x.toNat := fun {x} h => by
        have : x = 0 ∨ x = 1 ∨ x = 2 := by omega
        rcases this with rfl | rfl | rfl <;> rfl
      have lenO : ∀ {x : Int}, 0 ≤ x ∧ x < 3 → (oneI.getD x.toNat []).length = 3 := fun {x} h => by
        have : x = 0 ∨ x = 1 ∨ x = 2 := by omega
        rcases this with rfl | rfl | rfl <;> rfl
      have tb : ∀ {Γ : List D} {Ex : XK}, 10 < Γ.length → EvTb K (tLc (iTup K (tCall (spD K R_law_units) [] Ex tNil)) (gName 10) tYes (tCB (rListOf K) (tCons (tVar 10) tNil)) [10]) Γ oneI := fun {Γ Ex} h => evtb_lcT (xs := oneI) un (by decide) h
      refine sv_tabPut (L := 7) (a := i) (b := j) (v := k) (lt_ok rfl) (tb (lt_ok rfl)) (ev_var rfl) (ev_var rfl) (ev_var rfl) (ixn hi0) (by rw [lenO hi0]; exact ixn hj0) ?_
      rw [ll_put hi0 hj0 hne.1]
      show Sv K W0 _ [D.l (intsT ns), D.t (mat M), D.t (mat B), D.t (.int d), D.t (.int i), D.t (.int j), D.t (.int k), D.ll (llM (elT i j k)), d8, d9, D.no, D.no, D.no, D.no] _
      refine sv_tabPut (L := 8) (a := i) (b := j) (v := 0 - k) (lt_ok rfl) (tb (lt_ok rfl)) (ev_sub ev_int (ev_var rfl)) (ev_var rfl) (ev_var rfl) (ixn hi0) (by rw [lenO hi0]; exact ixn hj0) ?_
      rw [ll_put hi0 hj0 hne.1]
      show Sv K W0 _ [D.l (intsT ns), D.t (mat M), D.t (mat B), D.t (.int d), D.t (.int i), D.t (.int j), D.t (.int k), D.ll (llM (elT i j k)), D.ll (llM (elT i j (0 - k))), d9, D.no, D.no, D.no, D.no] _
      have hE := elT_sm (i := i) (j := j) hk0
      have hU := elT_sm (i := i) (j := j) (k := 0 - k) (by omega)
      generalize elT i j k = E' at *
      generalize elT i j (0 - k) = U at *
      have c0 : (⟨E'.a.x, E'.b.x, E'.c.x⟩ : Row).sm 2 := ⟨hE.a.x, hE.b.x, hE.c.x⟩
      have c1 : (⟨E'.a.y, E'.b.y, E'.c.y⟩ : Row).sm 2 := ⟨hE.a.y, hE.b.y, hE.c.y⟩
      have c2 : (⟨E'.a.z, E'.b.z, E'.c.z⟩ : Row).sm 2 := ⟨hE.a.z, hE.b.z, hE.c.z⟩
      have b0 : (⟨B.a.x, B.b.x, B.c.x⟩ : Row).sm 90 := ⟨hB.a.x, hB.b.x, hB.c.x⟩
      have b1 : (⟨B.a.y, B.b.y, B.c.y⟩ : Row).sm 90 := ⟨hB.a.y, hB.b.y, hB.c.y⟩
      have b2 : (⟨B.a.z, B.b.z, B.c.z⟩ : Row).sm 90 := ⟨hB.a.z, hB.b.z, hB.c.z⟩
      have em : (⟨⟨(image M ⟨E'.a.x, E'.b.x, E'.c.x⟩).x, (image M ⟨E'.a.y, E'.b.y, E'.c.y⟩).x, (image M ⟨E'.a.z, E'.b.z, E'.c.z⟩).x⟩, ⟨(image M ⟨E'.a.x, E'.b.x, E'.c.x⟩).y, (image M ⟨E'.a.y, E'.b.y, E'.c.y⟩).y, (image M ⟨E'.a.z, E'.b.z, E'.c.z⟩).y⟩, ⟨(image M ⟨E'.a.x, E'.b.x, E'.c.x⟩).z, (image M ⟨E'.a.y, E'.b.y, E'.c.y⟩).z, (image M ⟨E'.a.z, E'.b.z, E'.c.z⟩).z⟩⟩ : Mat) = mul M E' := by
        apply Mat.ext' <;> apply Row.ext' <;> (simp only [image, mul, Mat.tr, dot]; try grind)
      have eb : (⟨⟨(image U ⟨B.a.x, B.b.x, B.c.x⟩).x, (image U ⟨B.a.y, B.b.y, B.c.y⟩).x, (image U ⟨B.a.z, B.b.z, B.c.z⟩).x⟩, ⟨(image U ⟨B.a.x, B.b.x, B.c.x⟩).y, (image U ⟨B.a.y, B.b.y, B.c.y⟩).y, (image U ⟨B.a.z, B.b.z, B.c.z⟩).y⟩, ⟨(image U ⟨B.a.x, B.b.x, B.c.x⟩).z, (image U ⟨B.a.y, B.b.y, B.c.y⟩).z, (image U ⟨B.a.z, B.b.z, B.c.z⟩).z⟩⟩ : Mat) = mul U B := by
        apply Mat.ext' <;> apply Row.ext' <;> (simp only [image, mul, Mat.tr, dot]; try grind)
      refine sv_then [D.l (intsT ns), D.t (mat M), D.t (mat B), D.t (.int d), D.t (.int i), D.t (.int j), D.t (.int k), D.ll (llM E'), D.ll (llM U), D.own [row (image M ⟨E'.a.x, E'.b.x, E'.c.x⟩), row (image M ⟨E'.a.y, E'.b.y, E'.c.y⟩), row (image M ⟨E'.a.z, E'.b.z, E'.c.z⟩)], D.no, D.no, D.no, D.no] (sv_setF (evf_lcR3
        (ev_call (x := row (image M ⟨E'.a.x, E'.b.x, E'.c.x⟩)) (eva_t (ev_var rfl) (eva_t (x := row ⟨E'.a.x, E'.b.x, E'.c.x⟩) (ev_asrow (ev_tupleL (evl_f (evf_lcR3 (ev_ixL (evl_ll (k := 7) (xss := llM E') rfl (ev_var rfl) (by rfl)) (ev_var rfl) (by rfl)) (ev_ixL (evl_ll (k := 7) (xss := llM E') rfl (ev_var rfl) (by rfl)) (ev_var rfl) (by rfl)) (ev_ixL (evl_ll (k := 7) (xss := llM E') rfl (ev_var rfl) (by rfl)) (ev_var rfl) (by rfl)))))) eva_nil)) (by exact ⟨M, _, 90, 2, rfl, rfl, hM, c0, by decide, by decide⟩))
        (ev_call (x := row (image M ⟨E'.a.y, E'.b.y, E'.c.y⟩)) (eva_t (ev_var rfl) (eva_t (x := row ⟨E'.a.y, E'.b.y, E'.c.y⟩) (ev_asrow (ev_tupleL (evl_f (evf_lcR3 (ev_ixL (evl_ll (k := 7) (xss := llM E') rfl (ev_var rfl) (by rfl)) (ev_var rfl) (by rfl)) (ev_ixL (evl_ll (k := 7) (xss := llM E') rfl (ev_var rfl) (by rfl)) (ev_var rfl) (by rfl)) (ev_ixL (evl_ll (k := 7) (xss := llM E') rfl (ev_var rfl) (by rfl)) (ev_var rfl) (by rfl)))))) eva_nil)) (by exact ⟨M, _, 90, 2, rfl, rfl, hM, c1, by decide, by decide⟩))
        (ev_call (x := row (image M ⟨E'.a.z, E'.b.z, E'.c.z⟩)) (eva_t (ev_var rfl) (eva_t (x := row ⟨E'.a.z, E'.b.z, E'.c.z⟩) (ev_asrow (ev_tupleL (evl_f (evf_lcR3 (ev_ixL (evl_ll (k := 7) (xss := llM E') rfl (ev_var rfl) (by rfl)) (ev_var rfl) (by rfl)) (ev_ixL (evl_ll (k := 7) (xss := llM E') rfl (ev_var rfl) (by rfl)) (ev_var rfl) (by rfl)) (ev_ixL (evl_ll (k := 7) (xss := llM E') rfl (ev_var rfl) (by rfl)) (ev_var rfl) (by rfl)))))) eva_nil)) (by exact ⟨M, _, 90, 2, rfl, rfl, hM, c2, by decide, by decide⟩))) rfl) ?_
      have colm : ∀ {M0 : Mat} {u0 u1 u2 : Row} {cs : List Cz.T}, cs = [row u0, row u1, row u2] → Ev K (tThen (tLc (iRng1 (tCons (tC (.int 3)) tNil)) (gName 10) tYes (tThen (tLc (iList K (tVar 9)) (gName 12) tYes (tOp (rIxT K) (tVar 12) (tVar 10)) [12]) (kTup K)) [10]) (kTup K)) [D.l (intsT ns), D.t (mat M0), D.t (mat B), D.t (.int d), D.t (.int i), D.t (.int j), D.t (.int k), D.ll (llM E'), D.ll (llM U), D.own cs, D.no, D.no, D.no, D.no] (mat ⟨⟨u0.x, u1.x, u2.x⟩, ⟨u0.y, u1.y, u2.y⟩, ⟨u0.z, u1.z, u2.z⟩⟩) := fun {M0 u0 u1 u2 cs} e => by
        subst e
        exact ev_asmat (ev_tupleL (evl_f (evf_lcR3 (ev_asrow (ev_tupleL (evl_f (evf_lcG (ws := [u0, u1, u2]) row (fun c => .int c.x) (evl_v (by rfl)) (by show 3 < 1000000; decide) (fun c hc => ev_ixT (ev_var rfl) (ev_var rfl) (by rfl)))))) (ev_asrow (ev_tupleL (evl_f (evf_lcG (ws := [u0, u1, u2]) row (fun c => .int c.y) (evl_v (by rfl)) (by show 3 < 1000000; decide) (fun c hc => ev_ixT (ev_var rfl) (ev_var rfl) (by rfl)))))) (ev_asrow (ev_tupleL (evl_f (evf_lcG (ws := [u0, u1, u2]) row (fun c => .int c.z) (evl_v (by rfl)) (by show 3 < 1000000; decide) (fun c hc => ev_ixT (ev_var rfl) (ev_var rfl) (by rfl)))))))))
      refine sv_then [D.l (intsT ns), D.t (mat (mul M E')), D.t (mat B), D.t (.int d), D.t (.int i), D.t (.int j), D.t (.int k), D.ll (llM E'), D.ll (llM U), D.own [row (image M ⟨E'.a.x, E'.b.x, E'.c.x⟩), row (image M ⟨E'.a.y, E'.b.y, E'.c.y⟩), row (image M ⟨E'.a.z, E'.b.z, E'.c.z⟩)], D.no, D.no, D.no, D.no] (sv_set (by rw [← em]; exact colm rfl) rfl) ?_
      have li : ∀ {Γ : List D}, Γ[8]? = some (.ll (llM U)) → 10 < Γ.length → Ev K (tThen (tLc (iList K (tVar 8)) (gName 10) tYes (tThen (tVar 10) (kTup K)) [10]) (kTup K)) Γ (mat U) := fun h h2 => ev_eq (ev_tupleL (evl_f (evf_lines h (by show 3 < 1000000; decide) h2))) rfl
      refine sv_then [D.l (intsT ns), D.t (mat (mul M E')), D.t (mat B), D.t (.int d), D.t (.int i), D.t (.int j), D.t (.int k), D.ll (llM E'), D.ll (llM U), D.own [row (image U ⟨B.a.x, B.b.x, B.c.x⟩), row (image U ⟨B.a.y, B.b.y, B.c.y⟩), row (image U ⟨B.a.z, B.b.z, B.c.z⟩)], D.no, D.no, D.no, D.no] (sv_setF (evf_lcR3
        (ev_call (x := row (image U ⟨B.a.x, B.b.x, B.c.x⟩)) (eva_t (li rfl (lt_ok rfl)) (eva_t (x := row ⟨B.a.x, B.b.x, B.c.x⟩) (ev_asrow (ev_tupleL (evl_f (evf_lcT3 (ev_var rfl) (ev_ixT (ev_var rfl) (ev_var rfl) (by rfl)) (ev_ixT (ev_var rfl) (ev_var rfl) (by rfl)) (ev_ixT (ev_var rfl) (ev_var rfl) (by rfl)))))) eva_nil)) (by exact ⟨U, _, 2, 90, rfl, rfl, hU, b0, by decide, by decide⟩))
        (ev_call (x := row (image U ⟨B.a.y, B.b.y, B.c.y⟩)) (eva_t (li rfl (lt_ok rfl)) (eva_t (x := row ⟨B.a.y, B.b.y, B.c.y⟩) (ev_asrow (ev_tupleL (evl_f (evf_lcT3 (ev_var rfl) (ev_ixT (ev_var rfl) (ev_var rfl) (by rfl)) (ev_ixT (ev_var rfl) (ev_var rfl) (by rfl)) (ev_ixT (ev_var rfl) (ev_var rfl) (by rfl)))))) eva_nil)) (by exact ⟨U, _, 2, 90, rfl, rfl, hU, b1, by decide, by decide⟩))
        (ev_call (x := row (image U ⟨B.a.z, B.b.z, B.c.z⟩)) (eva_t (li rfl (lt_ok rfl)) (eva_t (x := row ⟨B.a.z, B.b.z, B.c.z⟩) (ev_asrow (ev_tupleL (evl_f (evf_lcT3 (ev_var rfl) (ev_ixT (ev_var rfl) (ev_var rfl) (by rfl)) (ev_ixT (ev_var rfl) (ev_var rfl) (by rfl)) (ev_ixT (ev_var rfl) (ev_var rfl) (by rfl)))))) eva_nil)) (by exact ⟨U, _, 2, 90, rfl, rfl, hU, b2, by decide, by decide⟩))) rfl) ?_
      exact sv_set (x := mat (mul U B)) (by rw [← eb]; exact colm rfl) ⟨_, _, _, _, _, _, _, _, _, rfl, rfl⟩
    · rintro G ⟨M, B, d3, d4, d5, d6, d7, d8, d9, rfl, hMB⟩
      have e1 : M = (movM ns).1 := by rw [← hMB]
      have e2 : B = (movM ns).2 := by rw [← hMB]
      exact sv_ret (x := .tup [mat M, mat B]) (ev_tups (evt_cons (ev_var rfl) (evt_cons (ev_var rfl) evt_nil)) (le_ok rfl)) (by rw [e1, e2])


theorem sc_parted : FnScope ["rows", "line", "pairs", "head", "second", "third", "sign", "row"] ["rows", "line"] (defScope s_parted) := ⟨rfl, rfl, rfl, by decide +kernel, rfl, by decide +kernel, by decide +kernel⟩
def R_parted : List D → D → Prop := fun ds r => ∃ (a b c l : Row) (n k : Nat), (ds = [.t (.tup [row a, row b, row c]), .t (row l)] ∨ ds = [.l [row a, row b, row c], .t (row l)]) ∧ r = .ll [[.int (partM a b c l).g], [row (partM a b c l).r, row (partM a b c l).s, row (partM a b c l).t]] ∧ a.sm n ∧ b.sm n ∧ c.sm n ∧ l.sm k ∧ n ≤ 1000 ∧ k ≤ 1000
theorem ok_parted (T : Txt K mg) : FnOk P w K mg base CX0 3 T.a_parted T.fd_parted ["rows", "line"] (spD K R_parted) := by
  refine fn_d T.F_parted sc_parted (fun ds r h => ?_) (fun cdv A outer s H E hr => ?_)
  · obtain ⟨a, b, c, l, n, k, rfl | rfl, _⟩ := h <;> rfl
  · have hu := hr.units
    have G_dot : FnOk P w K mg base CX0 1 T.a_dot T.fd_dot ["first", "second"] (spD K R_dot) := ok_dot T
    have G_divided : FnOk P w K mg base CX0 2 T.a_divided T.fd_divided ["first", "second"] (spD K R_divided) := ok_divided T
    have G_scaled : FnOk P w K mg base CX0 1 T.a_scaled T.fd_scaled ["row", "times"] (spD K R_scaled) := ok_scaled T
    refine ⟨_, (pss_cons (ps_setLc (i := 2) (own := [("row", 7)]) (g := (gName 7)) rfl sc_parted.nd rfl rfl (sw_true rfl rfl rfl (by decide +kernel)) (pki_seq K (pv 0)) (blkOk_by (own := [("row", 7)]) (N := ["rows", "line", "pairs", "head", "second", "third", "sign", "row"]) (sc := defScope s_parted) (by decide +kernel)) (fun _ _ _ _ _ => (pg_name (i := 7) sc_parted.nd rfl (by first | exact Or.inl rfl | exact Or.inr rfl))) (fun _ _ _ _ _ => pts_nil) (fun _ _ _ _ _ => (pe_tup (pa_cons (pe_call G_dot (hr.mono (by decide)) (by rfl) T.g_dot T.F_dot.kp T.b_dot .nil pass0 (pa_cons (pv 1) (pa_cons (pv 7) pa_nil))) (pa_cons (pv 7) pa_nil)))))
    (pss_cons (ps_asg (pe_call G_divided (hr.mono (by decide)) (by rfl) T.g_divided T.F_divided.kp T.b_divided .nil pass0 (pa_cons (pk_ixL K (pv 2) pe_int (fun _ _ => rfl)) (pa_cons (pk_ixL K (pv 2) pe_int (fun _ _ => rfl)) pa_nil))) (pgk_tup K rfl (pgs_cons (pg_name (i := 3) sc_parted.nd rfl (by first | exact Or.inl rfl | exact Or.inr rfl)) (pgs_cons (pg_name (i := 4) sc_parted.nd rfl (by first | exact Or.inl rfl | exact Or.inr rfl)) pgs_nil))))
    (pss_cons (ps_asg (pe_call G_divided (hr.mono (by decide)) (by rfl) T.g_divided T.F_divided.kp T.b_divided .nil pass0 (pa_cons (pv 3) (pa_cons (pk_ixL K (pv 2) pe_int (fun _ _ => rfl)) pa_nil))) (pgk_tup K rfl (pgs_cons (pg_name (i := 3) sc_parted.nd rfl (by first | exact Or.inl rfl | exact Or.inr rfl)) (pgs_cons (pg_name (i := 5) sc_parted.nd rfl (by first | exact Or.inl rfl | exact Or.inr rfl)) pgs_nil))))
    (pss_cons (ps_set (i := 6) sc_parted.nd rfl (by first | exact Or.inl rfl | exact Or.inr rfl) (pe_ifExp (pt_cmpR op_lt (pk_ixT K (pv 3) pe_int (fun _ _ => rfl)) pe_int (nomark _)) (pe_un un_neg pe_int) pe_int))
    (pss_one (ps_ret (pe_tup (pa_cons (pe_op op_mulW (pv 6) (pk_ixT K (pv 3) pe_int (fun _ _ => rfl))) (pa_cons (pe_lst (pa_cons (pe_call G_scaled (hr.mono (by decide)) (by rfl) T.g_scaled T.F_scaled.kp T.b_scaled .nil pass0 (pa_cons (pk_ixT K (pv 3) pe_int (fun _ _ => rfl)) (pa_cons (pv 6) pa_nil))) (pa_cons (pk_ixT K (pv 4) pe_int (fun _ _ => rfl)) (pa_cons (pk_ixT K (pv 5) pe_int (fun _ _ => rfl)) pa_nil)))) pa_nil))))))))), fun ds r h => ?_⟩
    obtain ⟨a, b, c, l, n, k, hds, rfl, ha, hb, hc, hl, hn, hk⟩ := h
    have d1 : Sm (n + k + 2) (dot l a) := (sm_dot hl ha).mono (by omega)
    have d2 : Sm (n + k + 2) (dot l b) := (sm_dot hl hb).mono (by omega)
    have d3 : Sm (n + k + 2) (dot l c) := (sm_dot hl hc).mono (by omega)
    obtain ⟨a1, a2, a3⟩ := euc_sm (a := ⟨dot l a, a⟩) (b := ⟨dot l b, b⟩) ha hb d1 d2
    obtain ⟨b1, b2, b3⟩ := euc_sm (a := (euc ⟨dot l a, a⟩ ⟨dot l b, b⟩).1) (b := ⟨dot l c, c⟩) (n := n + (n + k + 2) + 3) a1 (hc.mono (by omega)) a3 d3
    have hsg := sm_sg (euc (euc ⟨dot l a, a⟩ ⟨dot l b, b⟩).1 ⟨dot l c, c⟩).1.u
    have ht : sgI (euc (euc ⟨dot l a, a⟩ ⟨dot l b, b⟩).1 ⟨dot l c, c⟩).1.u = if decide ((euc (euc ⟨dot l a, a⟩ ⟨dot l b, b⟩).1 ⟨dot l c, c⟩).1.u < 0) = true then -1 else 1 := by
      unfold sgI
      simp only [decide_eq_true_eq]
    refine sv_then ((startD _ _).set 2 (.own [VR.t ⟨dot l a, a⟩, VR.t ⟨dot l b, b⟩, VR.t ⟨dot l c, c⟩])) (sv_setF ?_ rfl) ?_
    · rcases hds with rfl | rfl
      · refine evf_seqT (evf_lcT3 (ev_var rfl) ?_ ?_ ?_) <;> exact ev_tups (evt_cons (ev_call (eva_t (ev_var rfl) (eva_t (ev_var rfl) eva_nil)) (by walk_at "R_dot")) (evt_cons (ev_var rfl) evt_nil)) (le_ok rfl)
      · refine evf_seqL (evf_lcL (xs := [row a, row b, row c]) _ (evl_v (by rfl)) rfl (le_ok rfl) fun j x y hx hy => ?_)
        match j, hx, hy with
        | 0, hx, hy => cases hx; cases hy; exact ev_tups (evt_cons (ev_call (eva_t (ev_var rfl) (eva_t (ev_var rfl) eva_nil)) (by walk_at "R_dot")) (evt_cons (ev_var rfl) evt_nil)) (le_ok rfl)
        | 1, hx, hy => cases hx; cases hy; exact ev_tups (evt_cons (ev_call (eva_t (ev_var rfl) (eva_t (ev_var rfl) eva_nil)) (by walk_at "R_dot")) (evt_cons (ev_var rfl) evt_nil)) (le_ok rfl)
        | 2, hx, hy => cases hx; cases hy; exact ev_tups (evt_cons (ev_call (eva_t (ev_var rfl) (eva_t (ev_var rfl) eva_nil)) (by walk_at "R_dot")) (evt_cons (ev_var rfl) evt_nil)) (le_ok rfl)
    obtain ⟨z, hz⟩ : ∃ z, ds = [z, .t (row l)] := by
      rcases hds with h | h <;> exact ⟨_, h⟩
    subst hz
    clear hds
    show Sv K W0 _ [z, D.t (row l), .own [VR.t ⟨dot l a, a⟩, VR.t ⟨dot l b, b⟩, VR.t ⟨dot l c, c⟩], D.no, D.no, D.no, D.no, D.no] _
    refine sv_then _ (sv_asg (ev_call (eva_t (ev_ixL (evl_v (by rfl)) ev_int (by rfl)) (eva_t (ev_ixL (evl_v (by rfl)) ev_int (by rfl)) eva_nil)) (by walk_at "R_divided")) (gd_tup rfl (gds_cons (gd_name _ _) (gds_cons (gd_name _ _) gds_nil))) rfl) ?_
    refine sv_then _ (sv_asg (ev_call (eva_t (ev_var rfl) (eva_t (ev_ixL (evl_v (by rfl)) ev_int (by rfl)) eva_nil)) (by exact ⟨(euc ⟨dot l a, a⟩ ⟨dot l b, b⟩).1, ⟨dot l c, c⟩, n + (n + k + 2) + 3, n + k + 2, rfl, rfl, a1, hc.mono (by omega), a3, d3, by omega, by omega⟩)) (gd_tup rfl (gds_cons (gd_name _ _) (gds_cons (gd_name _ _) gds_nil))) rfl) ?_
    refine sv_then _ (sv_set (x := .int (sgI (euc (euc ⟨dot l a, a⟩ ⟨dot l b, b⟩).1 ⟨dot l c, c⟩).1.u)) (ev_if (evb_test (ev_lt (ev_ixT (ev_var rfl) ev_int (by rfl)) ev_int)) (fun h => ev_eq (ev_neg ev_int) (by rw [ht, if_pos h])) (fun h => ev_eq ev_int (by rw [ht, if_neg (by rw [h]; decide)]))) rfl) ?_
    exact sv_retTL (ev_mul (ev_var rfl) (ev_ixT (ev_var rfl) ev_int (by rfl)) (by walk_at "smk")) (evf_lsts (evt_cons (ev_call (eva_t (ev_ixT (ev_var rfl) ev_int (by rfl)) (eva_t (ev_var rfl) eva_nil)) (by walk_at "R_scaled")) (evt_cons (ev_ixT (ev_var rfl) ev_int (by rfl)) (evt_cons (ev_ixT (ev_var rfl) ev_int (by rfl)) evt_nil))) (le_ok rfl)) rfl
local macro_rules | `(tactic| walk_at "R_parted") => `(tactic| exact ⟨_, _, _, _, _, _, by first | exact .inl rfl | exact .inr rfl, rfl, by walk_at "sm", by walk_at "sm", by walk_at "sm", by walk_at "sm", by first | decide | omega, by first | decide | omega⟩)

theorem sc_narrowed : FnScope ["rows", "line", "number", "divisor", "top", "second", "third"] ["rows", "line", "number"] (defScope s_narrowed) := ⟨rfl, rfl, rfl, by decide +kernel, rfl, by decide +kernel, by decide +kernel⟩
def R_narrowed : List D → D → Prop := fun ds r => ∃ (L : Mat) (l : Row) (N : Int) (n k : Nat), (ds = [.t (.tup [row L.a, row L.b, row L.c]), .t (row l), .t (.int N)] ∨ ds = [.l [row L.a, row L.b, row L.c], .t (row l), .t (.int N)]) ∧ r = .l [row (narM L l N).a, row (narM L l N).b, row (narM L l N).c] ∧ L.sm n ∧ l.sm k ∧ Sm k N ∧ 0 < N ∧ n ≤ 1000 ∧ k ≤ 1000
theorem gI_pos {g N : Int} (h : 0 < N) : 0 < gI g N := by
  unfold gI
  have : 0 < Nat.gcd g.natAbs N.natAbs := Nat.gcd_pos_of_pos_right _ (by omega)
  omega
theorem gI_le {g N : Int} (h : 0 < N) : gI g N ≤ N := by
  unfold gI
  have := Nat.le_of_dvd (show 0 < N.natAbs by omega) (Nat.gcd_dvd_right g.natAbs N.natAbs)
  omega
theorem ok_narrowed (T : Txt K mg) : FnOk P w K mg base CX0 4 T.a_narrowed T.fd_narrowed ["rows", "line", "number"] (spD K R_narrowed) := by
  refine fn_d T.F_narrowed sc_narrowed (fun ds r h => ?_) (fun cdv A outer s H E hr => ?_)
  · obtain ⟨L, l, N, n, k, rfl | rfl, _⟩ := h <;> rfl
  · have hu := hr.units
    have G_parted : FnOk P w K mg base CX0 3 T.a_parted T.fd_parted ["rows", "line"] (spD K R_parted) := ok_parted T
    have G_scaled : FnOk P w K mg base CX0 1 T.a_scaled T.fd_scaled ["row", "times"] (spD K R_scaled) := ok_scaled T
    refine ⟨_, (pss_cons (ps_asg (pe_call G_parted (hr.mono (by decide)) (by rfl) T.g_parted T.F_parted.kp T.b_parted .nil pass0 (pa_cons (pv 0) (pa_cons (pv 1) pa_nil))) (pgk_tup K rfl (pgs_cons (pg_name (i := 3) sc_narrowed.nd rfl (by first | exact Or.inl rfl | exact Or.inr rfl)) (pgs_cons (pgk_lst K rfl (pgs_cons (pg_name (i := 4) sc_narrowed.nd rfl (by first | exact Or.inl rfl | exact Or.inr rfl)) (pgs_cons (pg_name (i := 5) sc_narrowed.nd rfl (by first | exact Or.inl rfl | exact Or.inr rfl)) (pgs_cons (pg_name (i := 6) sc_narrowed.nd rfl (by first | exact Or.inl rfl | exact Or.inr rfl)) pgs_nil)))) pgs_nil))))
    (pss_one (ps_ret (pe_lst (pa_cons (pe_call G_scaled (hr.mono (by decide)) (by rfl) T.g_scaled T.F_scaled.kp T.b_scaled .nil pass0 (pa_cons (pv 4) (pa_cons (pe_op op_fdivW (pv 2) (pe_callBfun cr_gcd (by rfl) T.z_gcd (pa_cons (pv 3) (pa_cons (pv 2) pa_nil)))) pa_nil))) (pa_cons (pv 5) (pa_cons (pv 6) pa_nil))))))), fun ds r h => ?_⟩
    obtain ⟨L, l, N, n, k, hds, rfl, hL, hl, hN, h0, hn, hk⟩ := h
    obtain ⟨p1, p2, p3, p4⟩ := part_sm hL.a hL.b hL.c hl
    have hg0 := gI_pos (g := (partM L.a L.b L.c l).g) h0
    have hgl := gI_le (g := (partM L.a L.b L.c l).g) h0
    have hgs : Sm k (gI (partM L.a L.b L.c l).g N) := by
      unfold Sm at *
      omega
    have hq : Sm (k + 1) (N / gI (partM L.a L.b L.c l).g N) := (Kx.smdiv hN).mono (by omega)
    have hC : CDivW N (gI (partM L.a L.b L.c l).g N) := divok hg0 hgs (by omega)
    obtain ⟨z, hz⟩ : ∃ z, ds = [z, .t (row l), .t (.int N)] ∧ (z = .t (.tup [row L.a, row L.b, row L.c]) ∨ z = .l [row L.a, row L.b, row L.c]) := by
      rcases hds with h | h
      · exact ⟨_, h, .inl rfl⟩
      · exact ⟨_, h, .inr rfl⟩
    obtain ⟨rfl, hzz⟩ := hz
    clear hds
    show Sv K W0 _ [z, D.t (row l), D.t (.int N), D.no, D.no, D.no, D.no] _
    refine sv_then [z, D.t (row l), D.t (.int N), D.t (.int (partM L.a L.b L.c l).g), D.t (row (partM L.a L.b L.c l).r), D.t (row (partM L.a L.b L.c l).s), D.t (row (partM L.a L.b L.c l).t)] (sv_asgTL (x := .int (partM L.a L.b L.c l).g) (xs := [row (partM L.a L.b L.c l).r, row (partM L.a L.b L.c l).s, row (partM L.a L.b L.c l).t]) ?_ (gd_name _ _) rfl (gds_cons (gd_name _ _) (gds_cons (gd_name _ _) (gds_cons (gd_name _ _) gds_nil))) rfl) ?_
    · rcases hzz with rfl | rfl
      · exact evtl_call (eva_t (ev_var rfl) (eva_t (ev_var rfl) eva_nil)) (by exact ⟨L.a, L.b, L.c, l, n, k, .inl rfl, rfl, hL.a, hL.b, hL.c, hl, hn, hk⟩)
      · exact evtl_call (eva_l (evl_v (by rfl)) (eva_t (ev_var rfl) eva_nil)) (by exact ⟨L.a, L.b, L.c, l, n, k, .inr rfl, rfl, hL.a, hL.b, hL.c, hl, hn, hk⟩)
    refine sv_retF (xs := [row (narM L l N).a, row (narM L l N).b, row (narM L l N).c]) (evf_lsts (evt_cons (ev_call (eva_t (ev_var rfl) (eva_t (ev_fdivW (ev_var rfl) (ev_gcd (ev_var rfl) (ev_var rfl)) hC) eva_nil)) (by exact ⟨(partM L.a L.b L.c l).r, N / gI (partM L.a L.b L.c l).g N, _, _, rfl, rfl, p1, hq, by omega, by omega⟩)) (evt_cons (ev_var rfl) (evt_cons (ev_var rfl) evt_nil))) (le_ok rfl)) rfl


theorem sc_shortened : FnScope ["form", "first", "second", "norm", "times"] ["form", "first", "second"] (defScope s_shortened) := ⟨rfl, rfl, rfl, by decide +kernel, rfl, by decide +kernel, by decide +kernel⟩
def R_shortened (C : Addr) : List D → D → Prop := fun ds r => ∃ (m : Mat) (p : Row × Row) (n : Nat), ds = [.t (formT C m), .t (row p.1), .t (row p.2)] ∧ r = .t (.tup [row (short m p).1, row (short m p).2]) ∧ m.sm 20 ∧ m = m.tr ∧ PD m p ∧ p.1.sm n ∧ p.2.sm n ∧ n ≤ 400
theorem ok_shortened (T : Txt K mg) : FnOk P w K mg base CX0 5 T.a_shortened T.fd_shortened ["form", "first", "second"] (spD K (R_shortened T.C_Form)) := by
  refine fn_d T.F_shortened sc_shortened (fun ds r h => ?_) (fun cdv A outer s H E hr => ?_)
  · obtain ⟨m, p, n, rfl, _⟩ := h
    rfl
  · have hu := hr.units
    have G_Form_norm : FnOk P w K mg base CX0 4 T.a_Form_norm T.fd_Form_norm ["self", "v"] (spD K (R_Form_norm T.C_Form)) := ok_Form_norm T
    have G_Form_product : FnOk P w K mg base CX0 3 T.a_Form_product T.fd_Form_product ["self", "v", "w"] (spD K (R_Form_product T.C_Form)) := ok_Form_product T
    have G_shifted : FnOk P w K mg base CX0 1 T.a_shifted T.fd_shifted ["row", "step", "times"] (spD K R_shifted) := ok_shifted T
    refine ⟨_, (pss_one (ps_while PassesOwn.never (pt_val pe_bl) (pss_cons (ps_if (pt_cmpR op_lt (pe_meth (pv 0) T.c_Form T.m_Form_norm G_Form_norm (hr.mono (by decide)) T.b_Form_norm .nil pass0 (pa_cons (pv 2) pa_nil)) (pe_meth (pv 0) T.c_Form T.m_Form_norm G_Form_norm (hr.mono (by decide)) T.b_Form_norm .nil pass0 (pa_cons (pv 1) pa_nil)) (nomark _)) (pss_one (ps_par (i := 1) (j := 2) (by rfl) sc_shortened.nd rfl rfl (by decide) rfl rfl (pa_cons (pv 2) (pa_cons (pv 1) pa_nil)) (by rfl))) pss_nil)
    (pss_cons (ps_set (i := 3) sc_shortened.nd rfl (by first | exact Or.inl rfl | exact Or.inr rfl) (pe_meth (pv 0) T.c_Form T.m_Form_norm G_Form_norm (hr.mono (by decide)) T.b_Form_norm .nil pass0 (pa_cons (pv 1) pa_nil)))
    (pss_cons (ps_set (i := 4) sc_shortened.nd rfl (by first | exact Or.inl rfl | exact Or.inr rfl) (pe_op op_fdivW (pe_op op_add (pe_op op_mulW pe_int (pe_meth (pv 0) T.c_Form T.m_Form_product G_Form_product (hr.mono (by decide)) T.b_Form_product .nil pass0 (pa_cons (pv 1) (pa_cons (pv 2) pa_nil)))) (pv 3)) (pe_op op_mulW pe_int (pv 3))))
    (pss_cons (ps_if (pt_cmpR op_eq (pv 4) pe_int (nomark _)) (pss_one (ps_ret (pe_tup (pa_cons (pv 1) (pa_cons (pv 2) pa_nil))))) pss_nil)
    (pss_one (ps_set (i := 2) sc_shortened.nd rfl (by first | exact Or.inl rfl | exact Or.inr rfl) (pe_call G_shifted (hr.mono (by decide)) (by rfl) T.g_shifted T.F_shifted.kp T.b_shifted .nil pass0 (pa_cons (pv 2) (pa_cons (pv 1) (pa_cons (pe_un un_neg (pv 4)) pa_nil)))))))))))), fun ds r h => ?_⟩
    obtain ⟨m, p, n, rfl, rfl, hm, hs, hp, h1, h2, hn⟩ := h
    show Sv K W0 _ [D.t (formT T.C_Form m), D.t (row p.1), D.t (row p.2), D.no, D.no] _
    have hk1 : Sm (2 * n + 24) (Q m p.1) := (sm_dot h1 (sm_image hm h1)).mono (by omega)
    have hk2 : Sm (2 * n + 24) (Q m p.2) := (sm_dot h2 (sm_image hm h2)).mono (by omega)
    refine sv_while (fun k G => ∃ q x y, G = [D.t (formT T.C_Form m), D.t (row q.1), D.t (row q.2), x, y] ∧ shMu m q = k ∧ ShOk m ((2 ^ (2 * n + 24) : Nat) : Int) p q) _ ⟨p, _, _, rfl, rfl, shok_first hp hk1 hk2⟩ ?_
    rintro k G ⟨q, x, y, rfl, rfl, hq⟩
    refine ⟨true, evb_val ev_bl, fun _ => ?_, fun h => nomatch h⟩
    obtain ⟨q1, q2⟩ := hq.sizes hs hp h1 h2 hk1 hk2
    obtain ⟨w1, w2⟩ := (hq.swOk hs).sizes hs hp h1 h2 hk1 hk2
    have hpos := (hq.pd.sw hs).a
    refine sv_then [D.t (formT T.C_Form m), D.t (row (shSw m q).1), D.t (row (shSw m q).2), x, y] ?_ ?_
    · refine sv_if (b := decide (Q m q.2 < Q m q.1)) (evb_test (ev_lt (ev_meth (x := .int (Q m q.2)) (ns := ["table", "determinant", "last"]) (ts := [mat m, .int (det m), .int (lastM m)]) (ev_var rfl) (by decide +kernel) (eva_t (ev_var rfl) eva_nil) (by walk_at "R_Form_norm")) (ev_meth (x := .int (Q m q.1)) (ns := ["table", "determinant", "last"]) (ts := [mat m, .int (det m), .int (lastM m)]) (ev_var rfl) (by decide +kernel) (eva_t (ev_var rfl) eva_nil) (by walk_at "R_Form_norm")))) (fun h => sv_par2 (ev_var rfl) (ev_var rfl) ?_) (fun h => sv_next ?_)
      · have e : shSw m q = (q.2, q.1) := if_pos (of_decide_eq_true h)
        rw [e]
        rfl
      · have e : shSw m q = q := if_neg (of_decide_eq_false h)
        rw [e]
    · have hstep := fun z => hq.next hs z
      have hdone := fun z => (short_done hs hq.pd z).symm.trans hq.e
      have ev : shT m (shSw m q) = (2 * dot (shSw m q).1 (image m (shSw m q).2) + Q m (shSw m q).1) / (2 * Q m (shSw m q).1) := rfl
      unfold shNx at hstep
      generalize shT m (shSw m q) = t at *
      generalize shSw m q = u at *
      obtain ⟨f, g⟩ := u
      simp only at *
      have hd : Sm (2 * (5 * n + 52) + 24) (dot f (image m g)) := (sm_dot w1 (sm_image hm w2)).mono (by omega)
      have hf : Sm (2 * (5 * n + 52) + 24) (Q m f) := (sm_dot w1 (sm_image hm w1)).mono (by omega)
      have ht : Sm (4 * (5 * n + 52) + 60) t := by
        rw [ev]
        exact (smdiv ((Sm.mul (Sm.of (x := 2) 2 (by decide)) hd).add' hf)).mono (by omega)
      have h2p : 0 < 2 * Q m f := by omega
      refine sv_then _ (sv_set (ev_meth (x := .int (Q m f)) (ns := ["table", "determinant", "last"]) (ts := [mat m, .int (det m), .int (lastM m)]) (ev_var rfl) (by decide +kernel) (eva_t (ev_var rfl) eva_nil) (by walk_at "R_Form_norm")) rfl) ?_
      refine sv_then _ (sv_set (x := .int t) (ev_eq (ev_fdivW (ev_add (ev_mul ev_int (ev_meth (x := .int (dot f (image m g))) (ns := ["table", "determinant", "last"]) (ts := [mat m, .int (det m), .int (lastM m)]) (ev_var rfl) (by decide +kernel) (eva_t (ev_var rfl) (eva_t (ev_var rfl) eva_nil)) (by walk_at "R_Form_product")) (by walk_at "smk")) (ev_var rfl)) (ev_mul ev_int (ev_var rfl) (by walk_at "smk")) (by walk_at "divk")) (by rw [ev])) rfl) ?_
      show Sv K W0 _ [D.t (formT T.C_Form m), D.t (row f), D.t (row g), D.t (.int (Q m f)), D.t (.int t)] _
      by_cases z : t = 0
      · refine sv_seq (fun _ => False) (sv_if (evb_test (ev_eqI (ev_var rfl) ev_int)) (fun h => sv_ret (ev_tups (evt_cons (ev_var rfl) (evt_cons (ev_var rfl) evt_nil)) (le_ok rfl)) (by rw [← hdone z])) (fun h => absurd z (by simpa using h))) fun _ h => h.elim
      · refine sv_then _ (sv_if (evb_test (ev_eqI (ev_var rfl) ev_int)) (fun h => absurd (by simpa using h) z) (fun h => sv_next rfl)) ?_
        exact sv_set (x := row (shR g f (-t))) (ev_call (eva_t (ev_var rfl) (eva_t (ev_var rfl) (eva_t (ev_neg (ev_var rfl)) eva_nil))) (by walk_at "R_shifted")) ⟨_, (hstep z).2, (f, shR g f (-t)), _, _, rfl, rfl, (hstep z).1⟩
local macro_rules | `(tactic| walk_at "R_shortened") => `(tactic| exact ⟨_, _, _, rfl, rfl, by assumption, by assumption, by assumption, by walk_at "sm", by walk_at "sm", by first | decide | omega⟩)


theorem sc_points_on : FnScope ["a", "b", "c", "d", "e", "f", "size", "middle", "square", "width", "points", "y", "root", "half"] ["a", "b", "c", "d", "e", "f"] (defScope s_points_on) := ⟨rfl, rfl, rfl, by decide +kernel, rfl, by decide +kernel, by decide +kernel⟩
def R_points_on : List D → D → Prop := fun ds r => ∃ (a b c d e f : Int) (n : Nat), ds = [.t (.int a), .t (.int b), .t (.int c), .t (.int d), .t (.int e), .t (.int f)] ∧ r = .l ((pts a b c d e f).map tup2) ∧ 0 < a ∧ 0 < ptS a b c ∧ (Sm n a ∧ Sm n b ∧ Sm n c ∧ Sm n d ∧ Sm n e ∧ Sm n f ∧ n ≤ 1500) ∧ ptN a b c d e f < 400000 ∧
  (-4611686018427387904 ≤ ptLo a b c d e f ∧ ptLo a b c d e f < 4611686018427387904 ∧ -4611686018427387904 ≤ ptHi a b c d e f ∧ ptHi a b c d e f < 4611686018427387904)
theorem ok_points_on (T : Txt K mg) : FnOk P w K mg base CX0 1 T.a_points_on T.fd_points_on ["a", "b", "c", "d", "e", "f"] (spD K R_points_on) := by
  refine fn_d T.F_points_on sc_points_on (fun ds r h => ?_) (fun cdv A outer s H E hr => ?_)
  · obtain ⟨a, b, c, d, e, f, n, rfl, _⟩ := h
    rfl
  · have hu := hr.units
    skip
    refine ⟨_, (pss_cons (ps_set (i := 6) sc_points_on.nd rfl (by first | exact Or.inl rfl | exact Or.inr rfl) (pe_op op_sub (pe_op op_mulW (pv 0) (pv 2)) (pe_op op_mulW (pv 1) (pv 1))))
    (pss_cons (ps_set (i := 7) sc_points_on.nd rfl (by first | exact Or.inl rfl | exact Or.inr rfl) (pe_op op_sub (pe_op op_mulW (pv 1) (pv 3)) (pe_op op_mulW (pv 0) (pv 4))))
    (pss_cons (ps_set (i := 8) sc_points_on.nd rfl (by first | exact Or.inl rfl | exact Or.inr rfl) (pe_op op_add (pe_op op_mulW (pv 7) (pv 7)) (pe_op op_mulW (pv 6) (pe_op op_sub (pe_op op_mulW (pv 3) (pv 3)) (pe_op op_mulW (pv 0) (pv 5))))))
    (pss_cons (ps_if (pt_cmpR op_lt (pv 8) pe_int (nomark _)) (pss_one (ps_ret (pe_lst pa_nil))) pss_nil)
    (pss_cons (ps_set (i := 9) sc_points_on.nd rfl (by first | exact Or.inl rfl | exact Or.inr rfl) (pe_callBfun cr_isqrt (by rfl) T.z_isqrt (pa_cons (pv 8) pa_nil)))
    (pss_cons (ps_set (i := 10) sc_points_on.nd rfl (by first | exact Or.inl rfl | exact Or.inr rfl) (pe_lst pa_nil))
    (pss_cons (ps_for PassesOwn.never rfl (pi_range2 (by rfl) T.z_range (pa_cons (pe_un un_neg (pe_op op_fdivW (pe_op op_sub (pv 9) (pv 7)) (pv 6))) (pa_cons (pe_op op_add (pe_op op_fdivW (pe_op op_add (pv 9) (pv 7)) (pv 6)) pe_int) pa_nil))) (pg_name (i := 11) sc_points_on.nd rfl (by first | exact Or.inl rfl | exact Or.inr rfl)) (pss_cons (ps_set (i := 8) sc_points_on.nd rfl (by first | exact Or.inl rfl | exact Or.inr rfl) (pe_op op_sub (pe_op op_mulW (pe_op op_add (pe_op op_mulW (pv 1) (pv 11)) (pv 3)) (pe_op op_add (pe_op op_mulW (pv 1) (pv 11)) (pv 3))) (pe_op op_mulW (pv 0) (pe_op op_add (pe_op op_add (pe_op op_mulW (pe_op op_mulW (pv 2) (pv 11)) (pv 11)) (pe_op op_mulW (pe_op op_mulW pe_int (pv 4)) (pv 11))) (pv 5)))))
    (pss_cons (ps_set (i := 12) sc_points_on.nd rfl (by first | exact Or.inl rfl | exact Or.inr rfl) (pe_callBfun cr_isqrt (by rfl) T.z_isqrt (pa_cons (pv 8) pa_nil)))
    (pss_one (ps_if (pt_cmpR op_eq (pe_op op_mulW (pv 12) (pv 12)) (pv 8) (nomark _)) (pss_one (ps_for PassesOwn.never rfl (pki_list K (pe_ifExp (pt_cmpR op_eq (pv 12) pe_int (nomark _)) (pe_lst (pa_cons (pv 12) pa_nil)) (pe_lst (pa_cons (pe_un un_neg (pv 12)) (pa_cons (pv 12) pa_nil))))) (pg_name (i := 13) sc_points_on.nd rfl (by first | exact Or.inl rfl | exact Or.inr rfl)) (pss_one (ps_if (pt_cmpR op_eq (pe_op op_mod (pe_op op_sub (pe_op op_sub (pv 13) (pe_op op_mulW (pv 1) (pv 11))) (pv 3)) (pv 0)) pe_int (nomark _)) (pss_one (ps_expr (pe_bm PySem.F.plainAttrs_list PySem.F.slot_list_append PySem.F.type_list_append mt_append (pv 10) (pa_cons (pe_tup (pa_cons (pe_op op_fdivW (pe_op op_sub (pe_op op_sub (pv 13) (pe_op op_mulW (pv 1) (pv 11))) (pv 3)) (pv 0)) (pa_cons (pv 11) pa_nil))) pa_nil)))) pss_nil)))) pss_nil)))))
    (pss_one (ps_ret (pv 10)))))))))), fun ds r h => ?_⟩
    obtain ⟨a, b, c, d, e, f, n, rfl, rfl, ha0, hs0, ⟨ha, hb, hc, hd, he, hf, hn⟩, hN, hz⟩ := h
    have hS : Sm (2 * n + 1) (ptS a b c) := ((ha.mul hc).sub2 (hb.mul hb)).mono (by omega)
    have hM : Sm (2 * n + 1) (ptM a b d e) := ((hb.mul hd).sub2 (ha.mul he)).mono (by omega)
    have hR : Sm (4 * n + 4) (ptR a b c d e f) := ((hM.mul hM).add2 ((hS.mul ((hd.mul hd).sub2 (ha.mul hf))).mono (by omega))).mono (by omega)
    show Sv K W0 _ [.t (.int a), .t (.int b), .t (.int c), .t (.int d), .t (.int e), .t (.int f), .no, .no, .no, .no, .no, .no, .no, .no] _
    refine sv_then _ (sv_set (x := .int (ptS a b c)) (ev_sub (ev_mul (ev_var rfl) (ev_var rfl) (by walk_at "smk")) (ev_mul (ev_var rfl) (ev_var rfl) (by walk_at "smk"))) rfl) ?_
    refine sv_then _ (sv_set (x := .int (ptM a b d e)) (ev_sub (ev_mul (ev_var rfl) (ev_var rfl) (by walk_at "smk")) (ev_mul (ev_var rfl) (ev_var rfl) (by walk_at "smk"))) rfl) ?_
    refine sv_then _ (sv_set (x := .int (ptR a b c d e f)) (ev_add (ev_mul (ev_var rfl) (ev_var rfl) (by walk_at "smk")) (ev_mul (ev_var rfl) (ev_sub (ev_mul (ev_var rfl) (ev_var rfl) (by walk_at "smk")) (ev_mul (ev_var rfl) (ev_var rfl) (by walk_at "smk"))) (by walk_at "smk"))) rfl) ?_
    by_cases hneg : ptR a b c d e f < 0
    · refine sv_seq (fun _ => False) (sv_if (evb_test (ev_lt (ev_var rfl) ev_int)) (fun h => sv_retF (xs := []) (evf_lsts evt_nil (le_ok rfl)) (by unfold pts; rw [if_pos hneg]; rfl)) (fun h => absurd hneg (by simpa using h))) fun _ h => h.elim
    have hr0 : 0 ≤ ptR a b c d e f := Int.not_lt.1 hneg
    refine sv_then _ (sv_if (evb_test (ev_lt (ev_var rfl) ev_int)) (fun h => absurd (by simpa using h) hneg) (fun h => sv_next rfl)) ?_
    refine sv_then _ (sv_set (x := .int (ptW a b c d e f)) (ev_isqrt (ev_var rfl) hr0 hR (by omega)) rfl) ?_
    have hW : Sm (4 * n + 4) (ptW a b c d e f) := sm_isq hr0 hR
    refine sv_then _ (sv_setF (xs := []) (evf_lsts evt_nil (le_ok rfl)) rfl) ?_
    refine sv_seq (fun G => ∃ s8 y r h, G = [.t (.int a), .t (.int b), .t (.int c), .t (.int d), .t (.int e), .t (.int f), .t (.int (ptS a b c)), .t (.int (ptM a b d e)), s8, .t (.int (ptW a b c d e f)), .own ((pts a b c d e f).map tup2), y, r, h]) ?_ ?_
    · refine sv_range2 (a := ptLo a b c d e f) (n := ptHi a b c d e f) (fun i G => ∃ s8 y r h, G = [.t (.int a), .t (.int b), .t (.int c), .t (.int d), .t (.int e), .t (.int f), .t (.int (ptS a b c)), .t (.int (ptM a b d e)), s8, .t (.int (ptW a b c d e f)), .own ((ptAcc a b c d e f i).map tup2), y, r, h]) (ev_neg (ev_fdivW (ev_sub (ev_var rfl) (ev_var rfl)) (ev_var rfl) (by walk_at "divk"))) (ev_add (ev_fdivW (ev_add (ev_var rfl) (ev_var rfl)) (ev_var rfl) (by walk_at "divk")) ev_int) hz ⟨_, _, _, _, rfl⟩ ?_ ?_
      · rintro i G hi ⟨s8, y0, r0, h0, rfl⟩
        refine ⟨_, gd_name 11 _, ?_⟩
        have hin : ptLo a b c d e f ≤ ptLo a b c d e f + i ∧ ptLo a b c d e f + i < ptHi a b c d e f := by omega
        have hq0 := ptQ_nn hs0 hr0 hin
        have hyS : Sm 63 (ptLo a b c d e f + i) := show Int.natAbs _ < 2 ^ 63 by omega
        have hi' : i < ptN a b c d e f := hi
        have hlen := ptAcc_len a b c d e f i
        rw [ptAcc_next hi']
        generalize ptAcc a b c d e f i = acc at *
        generalize ptLo a b c d e f + (i : Int) = y at *
        have hQ : Sm (3 * n + 140) (ptQ a b c d e f y) := sm_ptQ ha hb hc hd he hf hyS
        have hT : Sm (3 * n + 140) (isq (ptQ a b c d e f y)) := sm_isq hq0 hQ
        refine sv_then _ (sv_set (x := .int (ptQ a b c d e f y)) (ev_sub (ev_mul (ev_add (ev_mul (ev_var rfl) (ev_var rfl) (by walk_at "smk")) (ev_var rfl)) (ev_add (ev_mul (ev_var rfl) (ev_var rfl) (by walk_at "smk")) (ev_var rfl)) (by walk_at "smk")) (ev_mul (ev_var rfl) (ev_add (ev_add (ev_mul (ev_mul (ev_var rfl) (ev_var rfl) (by walk_at "smk")) (ev_var rfl) (by walk_at "smk")) (ev_mul (ev_mul ev_int (ev_var rfl) (by walk_at "smk")) (ev_var rfl) (by walk_at "smk"))) (ev_var rfl)) (by walk_at "smk"))) rfl) ?_
        refine sv_then _ (sv_set (x := .int (isq (ptQ a b c d e f y))) (ev_isqrt (ev_var rfl) hq0 hQ (by omega)) rfl) ?_
        show Sv K W0 _ [.t (.int a), .t (.int b), .t (.int c), .t (.int d), .t (.int e), .t (.int f), .t (.int (ptS a b c)), .t (.int (ptM a b d e)), .t (.int (ptQ a b c d e f y)), .t (.int (ptW a b c d e f)), .own (acc.map tup2), .t (.int y), .t (.int (isq (ptQ a b c d e f y))), h0] _
        refine sv_if (b := decide (isq (ptQ a b c d e f y) * isq (ptQ a b c d e f y) = ptQ a b c d e f y)) (evb_test (ev_eqI (ev_mul (ev_var rfl) (ev_var rfl) (by walk_at "smk")) (ev_var rfl))) (fun h => ?_) (fun h => sv_next ⟨.t (.int (ptQ a b c d e f y)), .t (.int y), .t (.int (isq (ptQ a b c d e f y))), h0, by unfold ptY; rw [if_neg (of_decide_eq_false h), List.append_nil]⟩)
        have hY : ptY a b c d e f y = (ptHs a b c d e f y).flatMap (ptH a b d y) := if_pos (of_decide_eq_true h)
        refine sv_forF (xs := intsT (ptHs a b c d e f y)) (fun j G => ∃ h, G = [.t (.int a), .t (.int b), .t (.int c), .t (.int d), .t (.int e), .t (.int f), .t (.int (ptS a b c)), .t (.int (ptM a b d e)), .t (.int (ptQ a b c d e f y)), .t (.int (ptW a b c d e f)), .own ((acc ++ ((ptHs a b c d e f y).take j).flatMap (ptH a b d y)).map tup2), .t (.int y), .t (.int (isq (ptQ a b c d e f y))), h])
          (evf_if (c := decide (isq (ptQ a b c d e f y) = 0)) (evb_test (ev_eqI (ev_var rfl) ev_int)) (fun h => evf_eq (evf_lsts (evt_cons (ev_var rfl) evt_nil) (le_ok rfl)) (by unfold ptHs; rw [if_pos (of_decide_eq_true h)]; rfl)) (fun h => evf_eq (evf_lsts (evt_cons (ev_neg (ev_var rfl)) (evt_cons (ev_var rfl) evt_nil)) (le_ok rfl)) (by unfold ptHs; rw [if_neg (of_decide_eq_false h)]; rfl))) ⟨h0, by simp⟩ ?_ ?_
        · rintro j x G hx ⟨h1, rfl⟩
          obtain ⟨k, hk, rfl⟩ := intsT_at' hx
          refine ⟨_, gd_name 13 _, ?_⟩
          have hl2 := ptHs_len a b c d e f y
          have hjl := flat_len (fun x => ptH_len a b d y x) ((ptHs a b c d e f y).take j)
          rw [ptHs_take hk]
          rw [List.length_take] at hjl
          have hal : (acc ++ ((ptHs a b c d e f y).take j).flatMap (ptH a b d y)).length < 1000000 := by
            rw [List.length_append]
            omega
          generalize acc ++ ((ptHs a b c d e f y).take j).flatMap (ptH a b d y) = ac2 at *
          have hal2 : (ac2.map tup2).length < 1000000 := by rw [List.length_map]; exact hal
          have hkS : Sm (3 * n + 140) k := ptHs_sm hT hk
          show Sv K W0 _ [.t (.int a), .t (.int b), .t (.int c), .t (.int d), .t (.int e), .t (.int f), .t (.int (ptS a b c)), .t (.int (ptM a b d e)), .t (.int (ptQ a b c d e f y)), .t (.int (ptW a b c d e f)), .own (ac2.map tup2), .t (.int y), .t (.int (isq (ptQ a b c d e f y))), .t (.int k)] _
          refine sv_if (b := decide ((k - b * y - d) % a = 0)) (evb_test (ev_eqI (ev_mod (ev_sub (ev_sub (ev_var rfl) (ev_mul (ev_var rfl) (ev_var rfl) (by walk_at "smk"))) (ev_var rfl)) (ev_var rfl) ha0) ev_int)) (fun h => ?_) (fun h => sv_next ⟨.t (.int k), by unfold ptH; rw [if_neg (of_decide_eq_false h), List.append_nil]⟩)
          have hH : ptH a b d y k = [((k - b * y - d) / a, y)] := if_pos (of_decide_eq_true h)
          rw [hH]
          exact sv_append (xs := ac2.map tup2) (y := tup2 ((k - b * y - d) / a, y)) rfl (ev_tups (evt_cons (ev_fdivW (ev_sub (ev_sub (ev_var rfl) (ev_mul (ev_var rfl) (ev_var rfl) (by walk_at "smk"))) (ev_var rfl)) (ev_var rfl) (by walk_at "divk")) (evt_cons (ev_var rfl) evt_nil)) (le_ok rfl)) hal2 ⟨.t (.int k), by rw [List.map_append]; rfl⟩
        · rintro G ⟨h1, rfl⟩
          refine ⟨.t (.int (ptQ a b c d e f y)), .t (.int y), .t (.int (isq (ptQ a b c d e f y))), h1, ?_⟩
          rw [hY, intsT_len, List.take_of_length_le (Nat.le_refl _)]
      · rintro G ⟨s8, y, r, h, rfl⟩
        refine ⟨s8, y, r, h, ?_⟩
        rw [← ptAcc_all hneg]
        rfl
    · rintro G ⟨s8, y, r, h, rfl⟩
      exact sv_retO rfl rfl


theorem sc_Layers__init_ : FnScope ["self", "form", "p", "rows", "step", "top", "second", "third"] ["self", "form", "p", "rows"] (defScope s_Layers__init_) := ⟨rfl, rfl, rfl, by decide +kernel, rfl, by decide +kernel, by decide +kernel⟩
def layT (C Cf : Addr) (m : Mat) (q : PT4) : T := .obj C ["form", "step", "top", "short", "long"] [formT Cf m, .int q.g, row q.r, row (short m (q.s, q.t)).1, row (short m (q.s, q.t)).2]
def R_Layers__init_ (C Cf : Addr) : List D → Rs → Prop := fun ds r => ∃ (m : Mat) (p a b c : Row) (n : Nat), ds = [.t (formT Cf m), .t (row p), .l [row a, row b, row c]] ∧ r = .ok (.t (layT C Cf m (partM a b c (image m p)))) ∧ m.sm 20 ∧ m = m.tr ∧ p.sm n ∧ a.sm n ∧ b.sm n ∧ c.sm n ∧ n ≤ 60 ∧ PD m ((partM a b c (image m p)).s, (partM a b c (image m p)).t)
theorem ok_Layers__init_ (T : Txt K mg) : FnOk P w K mg base (L2.CX P w) 6 T.a_Layers__init_ T.fd_Layers__init_ ["self", "form", "p", "rows"] (spI K T.C_Layers (R_Layers__init_ T.C_Layers T.C_Form)) := by
  refine fn_iL T.F_Layers__init_ sc_Layers__init_ (fun ds r h => ?_) (fun cdv A outer s H E hr => ?_)
  · obtain ⟨m, p, a, b, c, n, rfl, _⟩ := h
    rfl
  · have hu := hr.units
    have G_parted : FnOk P w K mg base CX0 3 T.a_parted T.fd_parted ["rows", "line"] (spD K R_parted) := ok_parted T
    have G_image : FnOk P w K mg base CX0 2 T.a_image T.fd_image ["matrix", "row"] (spD K R_image) := ok_image T
    have G_shortened : FnOk P w K mg base CX0 5 T.a_shortened T.fd_shortened ["form", "first", "second"] (spD K (R_shortened T.C_Form)) := ok_shortened T
    refine ⟨_, (pss_cons (ps_fld (pv 0) (pv 1) rfl)
    (pss_cons (ps_asg (pe_call G_parted (hr.mono (by decide)) (by rfl) T.g_parted T.F_parted.kp T.b_parted .nil pass0 (pa_cons (pv 3) (pa_cons (pe_call G_image (hr.mono (by decide)) (by rfl) T.g_image T.F_image.kp T.b_image .nil pass0 (pa_cons (pk_fld K (pv 1) rfl) (pa_cons (pv 2) pa_nil))) pa_nil))) (pgk_tup K rfl (pgs_cons (pg_name (i := 4) sc_Layers__init_.nd rfl (by first | exact Or.inl rfl | exact Or.inr rfl)) (pgs_cons (pgk_lst K rfl (pgs_cons (pg_name (i := 5) sc_Layers__init_.nd rfl (by first | exact Or.inl rfl | exact Or.inr rfl)) (pgs_cons (pg_name (i := 6) sc_Layers__init_.nd rfl (by first | exact Or.inl rfl | exact Or.inr rfl)) (pgs_cons (pg_name (i := 7) sc_Layers__init_.nd rfl (by first | exact Or.inl rfl | exact Or.inr rfl)) pgs_nil)))) pgs_nil))))
    (pss_cons (ps_fld (pv 0) (pv 4) rfl)
    (pss_cons (ps_fld (pv 0) (pv 5) rfl)
    (pss_one (ps_asg (pe_call G_shortened (hr.mono (by decide)) (by rfl) T.g_shortened T.F_shortened.kp T.b_shortened .nil pass0 (pa_cons (pv 1) (pa_cons (pv 6) (pa_cons (pv 7) pa_nil)))) (pgk_tup K rfl (pgs_cons (pgk_fld K (pv 0)) (pgs_cons (pgk_fld K (pv 0)) pgs_nil))))))))), fun ds r x dx σ H D hR I hls hok her => ?_⟩
    obtain ⟨m, p, a, b, c, n, rfl, hr, hm, hs, hp, ha, hb, hc, hn, hpd⟩ := hR
    obtain ⟨b', us, e', s0, r0⟩ := hls 2 _ rfl
    have hl : (image m p).sm (20 + n + 2) := sm_image hm hp
    obtain ⟨p1, p2, p3, p4⟩ := part_sm ha hb hc hl
    refine i_fldV I rfl T.c_Layers T.n_Layers_form rfl (by decide) fun H1 I1 => ?_
    refine i_asgTL3L (m := 3) (xs := [row a, row b, row c]) I1 (by decide) e' s0 r0 (evtl_call (eva_l (evl_v (by rfl)) (eva_t (ev_call (eva_t (ev_fld 0 (ns := ["table", "determinant", "last"]) (ts := [mat m, .int (det m), .int (lastM m)]) (ev_var rfl) T.c_Form T.n_Form_table rfl (by decide +kernel) rfl) (eva_t (ev_var rfl) eva_nil)) (by walk_at "R_image")) eva_nil)) (by walk_at "R_parted")) ⟨rfl, rfl, rfl, rfl⟩ ⟨by decide, by decide, by decide, by decide⟩ fun σ2 H2 I2 => ?_
    refine i_fldV I2 rfl T.c_Layers T.n_Layers_step rfl (by decide) fun H3 I3 => ?_
    refine i_fldV I3 rfl T.c_Layers T.n_Layers_top rfl (by decide) fun H4 I4 => ?_
    refine i_fld2 I4 (ev_call (eva_t (ev_var rfl) (eva_t (ev_var rfl) (eva_t (ev_var rfl) eva_nil))) (by exact ⟨m, ((partM a b c (image m p)).s, (partM a b c (image m p)).t), 5 * n + 60, rfl, rfl, hm, hs, hpd, p2.mono (by omega), p3.mono (by omega), by omega⟩)) ⟨rfl, rfl⟩ T.c_Layers T.n_Layers_short T.n_Layers_long (by decide +kernel) (by decide +kernel) (by decide) fun H5 I5 => ?_
    exact hok H5 _ _ _ _ hr I5


theorem sc_Layers_rows_with : FnScope ["self", "a", "n", "form", "start", "points", "x", "y"] ["self", "a", "n"] (defScope s_Layers_rows_with) := ⟨rfl, rfl, rfl, by decide +kernel, rfl, by decide +kernel, by decide +kernel⟩
def R_Layers_rows_with (C Cf : Addr) : List D → D → Prop := fun ds r => ∃ (m : Mat) (q : PT4) (a n : Int) (k : Nat), ds = [.t (layT C Cf m q), .t (.int a), .t (.int n)] ∧ r = .l ((rowsM m q a n).map row) ∧ LayOk m q k ∧ Sm k a ∧ Sm k n ∧ (a % q.g = 0 → PtOk m q a n)
theorem ok_Layers_rows_with (T : Txt K mg) : FnOk P w K mg base CX0 5 T.a_Layers_rows_with T.fd_Layers_rows_with ["self", "a", "n"] (spD K (R_Layers_rows_with T.C_Layers T.C_Form)) := by
  refine fn_d T.F_Layers_rows_with sc_Layers_rows_with (fun ds r h => ?_) (fun cdv A outer s H E hr => ?_)
  · obtain ⟨m, q, a, n, k, rfl, _⟩ := h
    rfl
  · have hu := hr.units
    have G_scaled : FnOk P w K mg base CX0 1 T.a_scaled T.fd_scaled ["row", "times"] (spD K R_scaled) := ok_scaled T
    have G_points_on : FnOk P w K mg base CX0 1 T.a_points_on T.fd_points_on ["a", "b", "c", "d", "e", "f"] (spD K R_points_on) := ok_points_on T
    have G_Form_norm : FnOk P w K mg base CX0 4 T.a_Form_norm T.fd_Form_norm ["self", "v"] (spD K (R_Form_norm T.C_Form)) := ok_Form_norm T
    have G_Form_product : FnOk P w K mg base CX0 3 T.a_Form_product T.fd_Form_product ["self", "v", "w"] (spD K (R_Form_product T.C_Form)) := ok_Form_product T
    have G_shifted : FnOk P w K mg base CX0 1 T.a_shifted T.fd_shifted ["row", "step", "times"] (spD K R_shifted) := ok_shifted T
    refine ⟨_, (pss_cons (ps_if (pt_cmpR op_ne (pe_op op_mod (pv 1) (pk_fld K (pv 0) rfl)) pe_int (nomark _)) (pss_one (ps_ret (pe_lst pa_nil))) pss_nil)
    (pss_cons (ps_set (i := 3) sc_Layers_rows_with.nd rfl (by first | exact Or.inl rfl | exact Or.inr rfl) (pk_fld K (pv 0) rfl))
    (pss_cons (ps_set (i := 4) sc_Layers_rows_with.nd rfl (by first | exact Or.inl rfl | exact Or.inr rfl) (pe_call G_scaled (hr.mono (by decide)) (by rfl) T.g_scaled T.F_scaled.kp T.b_scaled .nil pass0 (pa_cons (pk_fld K (pv 0) rfl) (pa_cons (pe_op op_fdivW (pv 1) (pk_fld K (pv 0) rfl)) pa_nil))))
    (pss_cons (ps_set (i := 5) sc_Layers_rows_with.nd rfl (by first | exact Or.inl rfl | exact Or.inr rfl) (pe_call G_points_on (hr.mono (by decide)) (by rfl) T.g_points_on T.F_points_on.kp T.b_points_on .nil pass0 (pa_cons (pe_meth (pv 3) T.c_Form T.m_Form_norm G_Form_norm (hr.mono (by decide)) T.b_Form_norm .nil pass0 (pa_cons (pk_fld K (pv 0) rfl) pa_nil)) (pa_cons (pe_meth (pv 3) T.c_Form T.m_Form_product G_Form_product (hr.mono (by decide)) T.b_Form_product .nil pass0 (pa_cons (pk_fld K (pv 0) rfl) (pa_cons (pk_fld K (pv 0) rfl) pa_nil))) (pa_cons (pe_meth (pv 3) T.c_Form T.m_Form_norm G_Form_norm (hr.mono (by decide)) T.b_Form_norm .nil pass0 (pa_cons (pk_fld K (pv 0) rfl) pa_nil)) (pa_cons (pe_meth (pv 3) T.c_Form T.m_Form_product G_Form_product (hr.mono (by decide)) T.b_Form_product .nil pass0 (pa_cons (pv 4) (pa_cons (pk_fld K (pv 0) rfl) pa_nil))) (pa_cons (pe_meth (pv 3) T.c_Form T.m_Form_product G_Form_product (hr.mono (by decide)) T.b_Form_product .nil pass0 (pa_cons (pv 4) (pa_cons (pk_fld K (pv 0) rfl) pa_nil))) (pa_cons (pe_op op_sub (pe_meth (pv 3) T.c_Form T.m_Form_norm G_Form_norm (hr.mono (by decide)) T.b_Form_norm .nil pass0 (pa_cons (pv 4) pa_nil)) (pv 2)) pa_nil))))))))
    (pss_one (ps_ret (pe_callB (cr_sortedR hu) (by rfl) T.z_sorted (by decide +kernel) (pa_cons (pe_lc (own := [("x", 6), ("y", 7)]) (g := (gTup K 2 (gCons (gName 6) (gCons (gName 7) gNil)))) rfl sc_Layers_rows_with.nd (pki_list K (pv 5)) (blkOk_by (own := [("x", 6), ("y", 7)]) (N := ["self", "a", "n", "form", "start", "points", "x", "y"]) (sc := defScope s_Layers_rows_with) (by decide +kernel)) (fun _ _ _ _ _ => (pgk_tup K rfl (pgs_cons (pg_name (i := 6) sc_Layers_rows_with.nd rfl (by first | exact Or.inl rfl | exact Or.inr rfl)) (pgs_cons (pg_name (i := 7) sc_Layers_rows_with.nd rfl (by first | exact Or.inl rfl | exact Or.inr rfl)) pgs_nil)))) (fun _ _ _ _ _ => pts_nil) (fun _ _ _ _ _ => (pe_call G_shifted (hr.mono (by decide)) (by rfl) T.g_shifted T.F_shifted.kp T.b_shifted .nil pass0 (pa_cons (pe_call G_shifted (hr.mono (by decide)) (by rfl) T.g_shifted T.F_shifted.kp T.b_shifted .nil pass0 (pa_cons (pv 4) (pa_cons (pk_fld K (pv 0) rfl) (pa_cons (pv 6) pa_nil)))) (pa_cons (pk_fld K (pv 0) rfl) (pa_cons (pv 7) pa_nil)))))) pa_nil)))))))), fun ds r h => ?_⟩
    obtain ⟨m, q, a, n, k, rfl, rfl, hL, ha, hn, hp⟩ := h
    obtain ⟨hm, hs, hg, hpd, ht, hu2, hv2, hgs, hk⟩ := hL
    have hE := short_end hs hpd
    have hA : 0 < Q m (lyU m q) := hE.pd.a
    have hSz : 0 < ptS (Q m (lyU m q)) (dot (lyU m q) (image m (lyV m q))) (Q m (lyV m q)) := hE.pd.d
    show Sv K W0 _ [D.t (layT T.C_Layers T.C_Form m q), D.t (.int a), D.t (.int n), D.no, D.no, D.no, D.no, D.no] _
    by_cases hz : a % q.g = 0
    · have hS : (lyS q a).sm (2 * k) := lyS_sm ht ha
      obtain ⟨hN, hZ⟩ := hp hz
      have n1 : Sm (4 * k + 30) (Q m (lyU m q)) := (sm_dot hu2 (sm_image hm hu2)).mono (by omega)
      have n2 : Sm (4 * k + 30) (dot (lyU m q) (image m (lyV m q))) := (sm_dot hu2 (sm_image hm hv2)).mono (by omega)
      have n3 : Sm (4 * k + 30) (Q m (lyV m q)) := (sm_dot hv2 (sm_image hm hv2)).mono (by omega)
      have n4 : Sm (4 * k + 30) (dot (lyS q a) (image m (lyU m q))) := (sm_dot hS (sm_image hm hu2)).mono (by omega)
      have n5 : Sm (4 * k + 30) (dot (lyS q a) (image m (lyV m q))) := (sm_dot hS (sm_image hm hv2)).mono (by omega)
      have n6' : Sm (4 * k + 29) (Q m (lyS q a)) := (sm_dot hS (sm_image hm hS)).mono (by omega)
      have n6 : Sm (4 * k + 30) (Q m (lyS q a) - n) := (n6'.sub2 (hn.mono (by omega)))
      refine sv_then _ (sv_if (evb_test (ev_neI (ev_mod (ev_var rfl) (ev_fld 1 (ns := ["form", "step", "top", "short", "long"]) (ts := [formT T.C_Form m, .int q.g, row q.r, row (lyU m q), row (lyV m q)]) (ev_var rfl) T.c_Layers T.n_Layers_step rfl (by decide +kernel) rfl) hg) ev_int)) (fun h => absurd hz (by simpa using h)) (fun h => sv_next rfl)) ?_
      refine sv_then _ (sv_set (ev_fld 0 (ns := ["form", "step", "top", "short", "long"]) (ts := [formT T.C_Form m, .int q.g, row q.r, row (lyU m q), row (lyV m q)]) (ev_var rfl) T.c_Layers T.n_Layers_form rfl (by decide +kernel) rfl) rfl) ?_
      refine sv_then _ (sv_set (x := row (lyS q a)) (ev_call (eva_t (ev_fld 2 (ns := ["form", "step", "top", "short", "long"]) (ts := [formT T.C_Form m, .int q.g, row q.r, row (lyU m q), row (lyV m q)]) (ev_var rfl) T.c_Layers T.n_Layers_top rfl (by decide +kernel) rfl) (eva_t (ev_fdivW (ev_var rfl) (ev_fld 1 (ns := ["form", "step", "top", "short", "long"]) (ts := [formT T.C_Form m, .int q.g, row q.r, row (lyU m q), row (lyV m q)]) (ev_var rfl) T.c_Layers T.n_Layers_step rfl (by decide +kernel) rfl) (by walk_at "divk")) eva_nil)) (by exact ⟨q.r, a / q.g, k, k, rfl, rfl, ht, Kx.smdiv ha, by omega, by omega⟩)) rfl) ?_
      refine sv_then _ (sv_setF (xs := (lyP m q a n).map tup2) (evf_call (eva_t (ev_meth (x := .int (Q m (lyU m q))) (ns := ["table", "determinant", "last"]) (ts := [mat m, .int (det m), .int (lastM m)]) (ev_var rfl) (by decide +kernel) (eva_t (ev_fld 3 (ns := ["form", "step", "top", "short", "long"]) (ts := [formT T.C_Form m, .int q.g, row q.r, row (lyU m q), row (lyV m q)]) (ev_var rfl) T.c_Layers T.n_Layers_short rfl (by decide +kernel) rfl) eva_nil) (by walk_at "R_Form_norm")) (eva_t (ev_meth (x := .int (dot (lyU m q) (image m (lyV m q)))) (ns := ["table", "determinant", "last"]) (ts := [mat m, .int (det m), .int (lastM m)]) (ev_var rfl) (by decide +kernel) (eva_t (ev_fld 3 (ns := ["form", "step", "top", "short", "long"]) (ts := [formT T.C_Form m, .int q.g, row q.r, row (lyU m q), row (lyV m q)]) (ev_var rfl) T.c_Layers T.n_Layers_short rfl (by decide +kernel) rfl) (eva_t (ev_fld 4 (ns := ["form", "step", "top", "short", "long"]) (ts := [formT T.C_Form m, .int q.g, row q.r, row (lyU m q), row (lyV m q)]) (ev_var rfl) T.c_Layers T.n_Layers_long rfl (by decide +kernel) rfl) eva_nil)) (by walk_at "R_Form_product")) (eva_t (ev_meth (x := .int (Q m (lyV m q))) (ns := ["table", "determinant", "last"]) (ts := [mat m, .int (det m), .int (lastM m)]) (ev_var rfl) (by decide +kernel) (eva_t (ev_fld 4 (ns := ["form", "step", "top", "short", "long"]) (ts := [formT T.C_Form m, .int q.g, row q.r, row (lyU m q), row (lyV m q)]) (ev_var rfl) T.c_Layers T.n_Layers_long rfl (by decide +kernel) rfl) eva_nil) (by walk_at "R_Form_norm")) (eva_t (ev_meth (x := .int (dot (lyS q a) (image m (lyU m q)))) (ns := ["table", "determinant", "last"]) (ts := [mat m, .int (det m), .int (lastM m)]) (ev_var rfl) (by decide +kernel) (eva_t (ev_var rfl) (eva_t (ev_fld 3 (ns := ["form", "step", "top", "short", "long"]) (ts := [formT T.C_Form m, .int q.g, row q.r, row (lyU m q), row (lyV m q)]) (ev_var rfl) T.c_Layers T.n_Layers_short rfl (by decide +kernel) rfl) eva_nil)) (by walk_at "R_Form_product")) (eva_t (ev_meth (x := .int (dot (lyS q a) (image m (lyV m q)))) (ns := ["table", "determinant", "last"]) (ts := [mat m, .int (det m), .int (lastM m)]) (ev_var rfl) (by decide +kernel) (eva_t (ev_var rfl) (eva_t (ev_fld 4 (ns := ["form", "step", "top", "short", "long"]) (ts := [formT T.C_Form m, .int q.g, row q.r, row (lyU m q), row (lyV m q)]) (ev_var rfl) T.c_Layers T.n_Layers_long rfl (by decide +kernel) rfl) eva_nil)) (by walk_at "R_Form_product")) (eva_t (ev_sub (ev_meth (x := .int (Q m (lyS q a))) (ns := ["table", "determinant", "last"]) (ts := [mat m, .int (det m), .int (lastM m)]) (ev_var rfl) (by decide +kernel) (eva_t (ev_var rfl) eva_nil) (by walk_at "R_Form_norm")) (ev_var rfl)) eva_nil)))))) (by exact ⟨_, _, _, _, _, _, 4 * k + 30, rfl, rfl, hA, hSz, ⟨n1, n2, n3, n4, n5, n6, by omega⟩, hN, hZ⟩)) rfl) ?_
      have hlen : (lyP m q a n).length < 1000000 := by
        have := pts_len (Q m (lyU m q)) (dot (lyU m q) (image m (lyV m q))) (Q m (lyV m q)) (dot (lyS q a) (image m (lyU m q))) (dot (lyS q a) (image m (lyV m q))) (Q m (lyS q a) - n)
        unfold lyP
        omega
      refine sv_retF (xs := (sortR ((lyP m q a n).map (lyR m q a))).map row) (evf_sortedR (evl_f (evf_eq (evf_lcL2 (xs := lyP m q a n) (fun p => row (lyR m q a p)) (evl_v (by rfl)) hlen (fun x y hxy => ?_)) (by rw [List.map_map]; rfl)))) (by unfold rowsM; rw [if_pos hz])
      obtain ⟨hx, hy⟩ := pts_sm hSz n1 n2 n3 n4 n5 n6 hZ hxy
      have hsh : (shR (lyS q a) (lyU m q) x).sm (20 * k + 300) := shR_sm hS hu2 hx (by omega)
      exact ev_call (eva_t (ev_call (eva_t (ev_var rfl) (eva_t (ev_fld 3 (ns := ["form", "step", "top", "short", "long"]) (ts := [formT T.C_Form m, .int q.g, row q.r, row (lyU m q), row (lyV m q)]) (ev_var rfl) T.c_Layers T.n_Layers_short rfl (by decide +kernel) rfl) (eva_t (ev_var rfl) eva_nil))) (by exact ⟨lyS q a, lyU m q, x, _, _, _, rfl, rfl, hS, hu2, hx, by omega, by omega, by omega⟩)) (eva_t (ev_fld 4 (ns := ["form", "step", "top", "short", "long"]) (ts := [formT T.C_Form m, .int q.g, row q.r, row (lyU m q), row (lyV m q)]) (ev_var rfl) T.c_Layers T.n_Layers_long rfl (by decide +kernel) rfl) (eva_t (ev_var rfl) eva_nil))) (by exact ⟨shR (lyS q a) (lyU m q) x, lyV m q, y, _, _, _, rfl, rfl, hsh, hv2, hy, by omega, by omega, by omega⟩)
    · exact sv_seq (fun _ => False) (sv_if (evb_test (ev_neI (ev_mod (ev_var rfl) (ev_fld 1 (ns := ["form", "step", "top", "short", "long"]) (ts := [formT T.C_Form m, .int q.g, row q.r, row (lyU m q), row (lyV m q)]) (ev_var rfl) T.c_Layers T.n_Layers_step rfl (by decide +kernel) rfl) hg) ev_int)) (fun h => sv_retF (xs := []) (evf_lsts evt_nil (le_ok rfl)) (by unfold rowsM; rw [if_neg hz]; rfl)) (fun h => absurd (by simpa using h) hz)) fun _ h => h.elim

theorem sc_is_bare : FnScope ["row"] ["row"] (defScope s_is_bare) := ⟨rfl, rfl, rfl, by decide +kernel, rfl, by decide +kernel, by decide +kernel⟩
def R_is_bare : List D → D → Prop := fun ds r => ∃ (v : Row), ds = [.t (row v)] ∧ r = .t (.bl (decide ((bareN v : Int) = 1)))
theorem ok_is_bare (T : Txt K mg) : FnOk P w K mg base CX0 1 T.a_is_bare T.fd_is_bare ["row"] (spD K R_is_bare) := by
  refine fn_d T.F_is_bare sc_is_bare (fun ds r h => ?_) (fun cdv A outer s H E hr => ?_)
  · obtain ⟨v, rfl, _⟩ := h
    rfl
  · have hu := hr.units
    refine ⟨_, (pss_one (ps_ret (pe_cmpR op_eq (pe_callBfun cr_gcd3 (by rfl) T.z_gcd (pa_cons (pk_ixT K (pv 0) pe_int (fun _ _ => rfl)) (pa_cons (pk_ixT K (pv 0) pe_int (fun _ _ => rfl)) (pa_cons (pk_ixT K (pv 0) pe_int (fun _ _ => rfl)) pa_nil)))) pe_int (nomark _)))), fun ds r h => ?_⟩
    obtain ⟨v, rfl, rfl⟩ := h
    show Sv K W0 _ [D.t (row v)] _
    have e : bareN v = (v.x.natAbs.gcd v.y.natAbs).gcd v.z.natAbs := rfl
    rw [e]
    have hg := fun (Γ : List D) (ta tb tc : TE) => @ev_gcd3 K Γ ta tb tc v.x v.y v.z
    generalize (v.x.natAbs.gcd v.y.natAbs).gcd v.z.natAbs = g at *
    exact sv_ret (ev_eqI (hg _ _ _ _ (ev_ixT (ev_var rfl) ev_int (by rfl)) (ev_ixT (ev_var rfl) ev_int (by rfl)) (ev_ixT (ev_var rfl) ev_int (by rfl))) ev_int) rfl
local macro_rules | `(tactic| walk_at "R_is_bare") => `(tactic| exact ⟨_, rfl, rfl⟩)

theorem sc_kinds : FnScope ["form", "most", "number"] ["form"] (defScope s_kinds) := ⟨rfl, rfl, rfl, by decide +kernel, rfl, by decide +kernel, by decide +kernel⟩
def R_kinds (C : Addr) : List D → D → Prop := fun ds r => ∃ (m : Mat), ds = [.t (formT C m)] ∧ r = .l (intsT (kindsM m)) ∧ m.sm 20 ∧ 0 < lastM m ∧ lastM m ≤ 500
theorem ok_kinds (T : Txt K mg) : FnOk P w K mg base CX0 1 T.a_kinds T.fd_kinds ["form"] (spD K (R_kinds T.C_Form)) := by
  refine fn_d T.F_kinds sc_kinds (fun ds r h => ?_) (fun cdv A outer s H E hr => ?_)
  · obtain ⟨m, rfl, _⟩ := h
    rfl
  · have hu := hr.units
    refine ⟨_, (pss_cons (ps_set (i := 1) sc_kinds.nd rfl (by first | exact Or.inl rfl | exact Or.inr rfl) (pe_op op_mulW pe_int (pk_fld K (pv 0) rfl)))
    (pss_one (ps_ret (pe_lc (own := [("number", 2)]) (g := (gName 2)) rfl sc_kinds.nd (pi_range2 (by rfl) T.z_range (pa_cons pe_int (pa_cons (pe_op op_add (pv 1) pe_int) pa_nil))) (blkOk_by (own := [("number", 2)]) (N := ["form", "most", "number"]) (sc := defScope s_kinds) (by decide +kernel)) (fun _ _ _ _ _ => (pg_name (i := 2) sc_kinds.nd rfl (by first | exact Or.inl rfl | exact Or.inr rfl))) (fun _ _ _ _ _ => (pts_one (pt_cmpR op_eq (pe_op op_mod (pv 1) (pv 2)) pe_int (nomark _)))) (fun _ _ _ _ _ => (pv 2)))))), fun ds r h => ?_⟩
    obtain ⟨m, rfl, rfl, hm, h0, h1⟩ := h
    show Sv K W0 _ [D.t (formT T.C_Form m), D.no, D.no] _
    have hs : Sm 20 (lastM m) := by unfold Sm; omega
    refine sv_then [D.t (formT T.C_Form m), D.t (.int (2 * lastM m)), D.no] (sv_set (ev_mul ev_int (ev_fld 2 (ev_var rfl) T.c_Form T.n_Form_last rfl (by decide +kernel) rfl) (by walk_at "smk")) rfl) ?_
    have e : kindsM m = (rngI 1 (2 * lastM m + 1 - 1).toNat).filter fun n => decide (2 * lastM m % n = 0) := rfl
    rw [e]
    generalize lastM m = l at *
    refine sv_retF (xs := intsT ((rngI 1 (2 * l + 1 - 1).toNat).filter fun n => decide (2 * l % n = 0))) ?_ rfl
    exact evf_rng (fun n => decide (2 * l % n = 0)) ev_int (ev_add (ev_var rfl) ev_int) (by omega) fun x hx1 hx2 => ⟨evb_test (ev_eqI (ev_mod (ev_var rfl) (ev_var rfl) (by omega)) ev_int), ev_var rfl⟩
local macro_rules | `(tactic| walk_at "R_kinds") => `(tactic| exact ⟨_, rfl, rfl, by walk_at "sm", by omega, by omega⟩)

theorem sc_is_outward : FnScope ["form", "p", "r", "numbers", "number"] ["form", "p", "r"] (defScope s_is_outward) := ⟨rfl, rfl, rfl, by decide +kernel, rfl, by decide +kernel, by decide +kernel⟩
def R_is_outward (C : Addr) : List D → D → Prop := fun ds r => ∃ (m : Mat) (p v : Row), ds = [.t (formT C m), .t (row p), .t (row v)] ∧ r = .t (.bl (outB m p v)) ∧ m.sm 20 ∧ p.sm 1000 ∧ v.sm 15000 ∧ 0 < Q m v
theorem ok_is_outward (T : Txt K mg) : FnOk P w K mg base CX0 4 T.a_is_outward T.fd_is_outward ["form", "p", "r"] (spD K (R_is_outward T.C_Form)) := by
  refine fn_d T.F_is_outward sc_is_outward (fun ds r h => ?_) (fun cdv A outer s H E hr => ?_)
  · obtain ⟨m, p, v, rfl, _⟩ := h
    rfl
  · have hu := hr.units
    have G_image : FnOk P w K mg base CX0 2 T.a_image T.fd_image ["matrix", "row"] (spD K R_image) := ok_image T
    have G_Form_product : FnOk P w K mg base CX0 3 T.a_Form_product T.fd_Form_product ["self", "v", "w"] (spD K (R_Form_product T.C_Form)) := ok_Form_product T
    refine ⟨_, (pss_cons (ps_set (i := 3) sc_is_outward.nd rfl (by first | exact Or.inl rfl | exact Or.inr rfl) (pe_lst (pa_cons (pe_meth (pv 0) T.c_Form T.m_Form_product G_Form_product (hr.mono (by decide)) T.b_Form_product .nil pass0 (pa_cons (pv 2) (pa_cons (pv 1) pa_nil))) (pak_star K (pe_call G_image (hr.mono (by decide)) (by rfl) T.g_image T.F_image.kp T.b_image .nil pass0 (pa_cons (pk_fld K (pv 0) rfl) (pa_cons (pv 2) pa_nil))) pa_nil))))
    (pss_one (ps_ret (pe_cmpR op_lt (pk_ixL K (pe_lc (own := [("number", 4)]) (g := (gName 4)) rfl sc_is_outward.nd (pki_list K (pv 3)) (blkOk_by (own := [("number", 4)]) (N := ["form", "p", "r", "numbers", "number"]) (sc := defScope s_is_outward) (by decide +kernel)) (fun _ _ _ _ _ => (pg_name (i := 4) sc_is_outward.nd rfl (by first | exact Or.inl rfl | exact Or.inr rfl))) (fun _ _ _ _ _ => (pts_one (pt_cmpR op_ne (pv 4) pe_int (nomark _)))) (fun _ _ _ _ _ => (pv 4))) pe_int (fun _ _ => rfl)) pe_int (nomark _))))), fun ds r h => ?_⟩
    obtain ⟨m, p, v, rfl, rfl, hm, hp, hv, hq⟩ := h
    show Sv K W0 _ [D.t (formT T.C_Form m), D.t (row p), D.t (row v), D.no, D.no] _
    have hl := outL_ne (p := p) hq
    refine sv_then [D.t (formT T.C_Form m), D.t (row p), D.t (row v), D.own (intsT (outN m p v)), D.no] (sv_setF (xs := intsT (outN m p v)) (evf_lsts (evt_cons (ev_meth (ns := ["table", "determinant", "last"]) (ts := [mat m, .int (det m), .int (lastM m)]) (ev_var rfl) (by decide +kernel) (eva_t (ev_var rfl) (eva_t (ev_var rfl) eva_nil)) (by walk_at "R_Form_product")) (evt_star (xs := [.int (image m v).x, .int (image m v).y, .int (image m v).z]) (ev_call (eva_t (ev_fld 0 (ev_var rfl) T.c_Form T.n_Form_table rfl (by decide +kernel) rfl) (eva_t (ev_var rfl) eva_nil)) (by walk_at "R_image")) evt_nil)) (by exact le_ok rfl)) rfl) ?_
    have e : outB m p v = decide ((outL m p v).getD 0 0 < 0) := rfl
    have e2 : outL m p v = (outN m p v).filter fun n => !decide (n = 0) := rfl
    have hz : (outN m p v).length < 1000000 := by show 4 < 1000000; decide
    rw [e]
    rw [e2] at hl ⊢
    generalize outN m p v = ns at *
    refine sv_ret (ev_lt (ev_ixL (evl_f ?_) ev_int (dr_head hl)) ev_int) rfl
    exact evf_ints (fun n => !decide (n = 0)) (evl_v (by rfl)) hz fun n hn => ⟨evb_test (ev_neI (ev_var rfl) ev_int), ev_var rfl⟩
local macro_rules | `(tactic| walk_at "R_is_outward") => `(tactic| exact ⟨_, _, _, rfl, rfl, by walk_at "sm", by walk_at "sm", by walk_at "sm", by assumption⟩)


theorem sc_layers_of_kind : FnScope ["form", "p", "norm", "number", "rows", "line"] ["form", "p", "norm"] (defScope s_layers_of_kind) := ⟨rfl, rfl, rfl, by decide +kernel, rfl, by decide +kernel, by decide +kernel⟩
def R_layers_of_kind (C Cf : Addr) : List D → D → Prop := fun ds r => ∃ (m : Mat) (p : Row) (n : Int), ds = [.t (formT Cf m), .t (row p), .t (.int n)] ∧ r = .t (layT C Cf m (layQ m p (kindN n))) ∧ formOk m = true ∧ Q m p < 0 ∧ p.sm 50 ∧ 0 < n ∧ n ≤ 1000 ∧ LatSm m (kindN n)
theorem ok_layers_of_kind (T : Txt K mg) : FnOk P w K mg base CX0 8 T.a_layers_of_kind T.fd_layers_of_kind ["form", "p", "norm"] (spD K (R_layers_of_kind T.C_Layers T.C_Form)) := by
  refine fn_d T.F_layers_of_kind sc_layers_of_kind (fun ds r h => ?_) (fun cdv A outer s H E hr => ?_)
  · obtain ⟨m, p, n, rfl, _⟩ := h
    rfl
  · have hu := hr.units
    have G_narrowed : FnOk P w K mg base CX0 4 T.a_narrowed T.fd_narrowed ["rows", "line", "number"] (spD K R_narrowed) := ok_narrowed T
    have G_Layers__init_ : FnOk P w K mg base (L2.CX P w) 6 T.a_Layers__init_ T.fd_Layers__init_ ["self", "form", "p", "rows"] (spI K T.C_Layers (R_Layers__init_ T.C_Layers T.C_Form)) := ok_Layers__init_ T
    refine ⟨_, (pss_cons (ps_set (i := 3) sc_layers_of_kind.nd rfl (by first | exact Or.inl rfl | exact Or.inr rfl) (pe_op op_fdivW (pv 2) (pe_callBfun cr_gcd (by rfl) T.z_gcd (pa_cons (pv 2) (pa_cons pe_int pa_nil)))))
    (pss_cons (ps_set (i := 4) sc_layers_of_kind.nd rfl (by first | exact Or.inl rfl | exact Or.inr rfl) (pe_glob (v := .ref T.a_UNIT_ROWS) (by rfl) T.g_UNIT_ROWS rfl))
    (pss_cons (ps_for PassesOwn.never rfl (pki_tup K (pk_fld K (pv 0) rfl)) (pg_name (i := 5) sc_layers_of_kind.nd rfl (by first | exact Or.inl rfl | exact Or.inr rfl)) (pss_one (ps_set (i := 4) sc_layers_of_kind.nd rfl (by first | exact Or.inl rfl | exact Or.inr rfl) (pe_call G_narrowed (hr.mono (by decide)) (by rfl) T.g_narrowed T.F_narrowed.kp T.b_narrowed .nil pass0 (pa_cons (pv 4) (pa_cons (pv 5) (pa_cons (pv 3) pa_nil)))))))
    (pss_one (ps_ret (pe_make T.M_Layers G_Layers__init_ (hr.mono (by decide)) (by rfl) T.g_Layers T.b_Layers__init_ .nil passL (pa_cons (pv 0) (pa_cons (pv 1) (pa_cons (pv 4) pa_nil))))))))), fun ds r h => ?_⟩
    obtain ⟨m, p, n, rfl, rfl, hA, hq, hp, hn0, hn1, hL⟩ := h
    have hs : m.sm 10 := items_sm (formOk_items hA)
    have hk0 : 0 < kindN n := kindN_pos hn0
    have hkn : Sm 10 n := by unfold Sm; omega
    have hks : Sm 10 (kindN n) := Kx.smdiv hkn
    have hg : Sm 2 (gI n 2) := by
      have := gI_le (g := n) (N := 2) (by decide)
      have := gI_pos (g := n) (N := 2) (by decide)
      unfold Sm
      omega
    have hC : CDivW n (gI n 2) := divok (gI_pos (by decide)) hg (by decide)
    show Sv K W0 _ [D.t (formT T.C_Form m), D.t (row p), D.t (.int n), D.no, D.no, D.no] _
    refine sv_then [D.t (formT T.C_Form m), D.t (row p), D.t (.int n), D.t (.int (kindN n)), D.no, D.no] (sv_set (x := .int (kindN n)) (ev_fdivW (ev_var rfl) (ev_gcd (ev_var rfl) ev_int) hC) rfl) ?_
    generalize kindN n = N at *
    refine sv_then [D.t (formT T.C_Form m), D.t (row p), D.t (.int n), D.t (.int N), D.t (mat unitM), D.no] (sv_set (x := mat unitM) (ev_kg T.u_UNIT_ROWS) rfl) ?_
    refine sv_then [D.t (formT T.C_Form m), D.t (row p), D.t (.int n), D.t (.int N), D.own [row (latM m N).a, row (latM m N).b, row (latM m N).c], D.t (row m.c)] (sv_forT3 (x1 := row m.a) (x2 := row m.b) (x3 := row m.c) (ev_fld 0 (ev_var rfl) T.c_Form T.n_Form_table rfl (by decide +kernel) rfl)
      (G1 := [D.t (formT T.C_Form m), D.t (row p), D.t (.int n), D.t (.int N), D.own [row (narM unitM m.a N).a, row (narM unitM m.a N).b, row (narM unitM m.a N).c], D.t (row m.a)])
      (G2 := [D.t (formT T.C_Form m), D.t (row p), D.t (.int n), D.t (.int N), D.own [row (narM (narM unitM m.a N) m.b N).a, row (narM (narM unitM m.a N) m.b N).b, row (narM (narM unitM m.a N) m.b N).c], D.t (row m.b)])
      (G3 := [D.t (formT T.C_Form m), D.t (row p), D.t (.int n), D.t (.int N), D.own [row (latM m N).a, row (latM m N).b, row (latM m N).c], D.t (row m.c)])
      (gd_name _ _) (sv_setF (evf_call (eva_t (ev_var rfl) (eva_t (ev_var rfl) (eva_t (ev_var rfl) eva_nil))) (by exact ⟨unitM, m.a, N, 50, 10, .inl rfl, rfl, ⟨⟨by decide, by decide, by decide⟩, ⟨by decide, by decide, by decide⟩, ⟨by decide, by decide, by decide⟩⟩, hs.a, hks, hk0, by decide, by decide⟩)) rfl)
      (gd_name _ _) (sv_setF (evf_call (eva_l (evl_v (by rfl)) (eva_t (ev_var rfl) (eva_t (ev_var rfl) eva_nil))) (by exact ⟨narM unitM m.a N, m.b, N, 50, 10, .inr rfl, rfl, hL.a, hs.b, hks, hk0, by decide, by decide⟩)) rfl)
      (gd_name _ _) (sv_setF (evf_call (eva_l (evl_v (by rfl)) (eva_t (ev_var rfl) (eva_t (ev_var rfl) eva_nil))) (by exact ⟨narM (narM unitM m.a N) m.b N, m.c, N, 50, 10, .inr rfl, rfl, hL.b, hs.c, hks, hk0, by decide, by decide⟩)) rfl) rfl) ?_
    have L := lat_ok hA hq hk0
    exact sv_ret (x := layT T.C_Layers T.C_Form m (layQ m p N)) (ev_make (eva_t (ev_var rfl) (eva_t (ev_var rfl) (eva_l (evl_v (by rfl)) eva_nil))) (by exact ⟨m, p, (latM m N).a, (latM m N).b, (latM m N).c, 50, rfl, rfl, hs.mono (by decide), L.hs, hp, hL.c.a, hL.c.b, hL.c.c, by decide, L.pd⟩)) rfl
theorem sc_roots_of_layer : FnScope ["layers", "a", "norm", "row"] ["layers", "a", "norm"] (defScope s_roots_of_layer) := ⟨rfl, rfl, rfl, by decide +kernel, rfl, by decide +kernel, by decide +kernel⟩
def R_roots_of_layer (C Cf : Addr) : List D → D → Prop := fun ds r => ∃ (m : Mat) (q : PT4) (a n : Int) (k : Nat), ds = [.t (layT C Cf m q), .t (.int a), .t (.int n)] ∧ r = .l (((rowsM m q (-a) n).filter bareB).map row) ∧ LayOk m q k ∧ Sm k a ∧ Sm k n ∧ ((-a) % q.g = 0 → PtOk m q (-a) n)
theorem rowsM_len {m : Mat} {q : PT4} {a n : Int} (h : a % q.g = 0 → PtOk m q a n) : (rowsM m q a n).length < 1000000 := by
  unfold rowsM
  split
  · rename_i hz
    have h1 := (h hz).hn
    have h2 := pts_len (Q m (lyU m q)) (dot (lyU m q) (image m (lyV m q))) (Q m (lyV m q)) (dot (lyS q a) (image m (lyU m q))) (dot (lyS q a) (image m (lyV m q))) (Q m (lyS q a) - n)
    have h3 : (sortR ((lyP m q a n).map (lyR m q a))).length = (lyP m q a n).length := by
      unfold sortR
      rw [List.length_mergeSort, List.length_map]
    rw [h3]
    unfold lyP
    omega
  · decide
theorem ok_roots_of_layer (T : Txt K mg) : FnOk P w K mg base CX0 6 T.a_roots_of_layer T.fd_roots_of_layer ["layers", "a", "norm"] (spD K (R_roots_of_layer T.C_Layers T.C_Form)) := by
  refine fn_d T.F_roots_of_layer sc_roots_of_layer (fun ds r h => ?_) (fun cdv A outer s H E hr => ?_)
  · obtain ⟨m, q, a, n, k, rfl, _⟩ := h
    rfl
  · have hu := hr.units
    have G_is_bare : FnOk P w K mg base CX0 1 T.a_is_bare T.fd_is_bare ["row"] (spD K R_is_bare) := ok_is_bare T
    have G_Layers_rows_with : FnOk P w K mg base CX0 5 T.a_Layers_rows_with T.fd_Layers_rows_with ["self", "a", "n"] (spD K (R_Layers_rows_with T.C_Layers T.C_Form)) := ok_Layers_rows_with T
    refine ⟨_, (pss_one (ps_ret (pe_lc (own := [("row", 3)]) (g := (gName 3)) rfl sc_roots_of_layer.nd (pki_list K (pe_meth (pv 0) T.c_Layers T.m_Layers_rows_with G_Layers_rows_with (hr.mono (by decide)) T.b_Layers_rows_with .nil pass0 (pa_cons (pe_un un_neg (pv 1)) (pa_cons (pv 2) pa_nil)))) (blkOk_by (own := [("row", 3)]) (N := ["layers", "a", "norm", "row"]) (sc := defScope s_roots_of_layer) (by decide +kernel)) (fun _ _ _ _ _ => (pg_name (i := 3) sc_roots_of_layer.nd rfl (by first | exact Or.inl rfl | exact Or.inr rfl))) (fun _ _ _ _ _ => (pts_one (pt_val (pe_call G_is_bare (hr.mono (by decide)) (by rfl) T.g_is_bare T.F_is_bare.kp T.b_is_bare .nil pass0 (pa_cons (pv 3) pa_nil))))) (fun _ _ _ _ _ => (pv 3))))), fun ds r h => ?_⟩
    obtain ⟨m, q, a, n, k, rfl, rfl, hL, ha, hn, hp⟩ := h
    show Sv K W0 _ [D.t (layT T.C_Layers T.C_Form m q), D.t (.int a), D.t (.int n), D.no] _
    refine sv_retF (evf_rows (rs := rowsM m q (-a) n) bareB (evl_f (evf_meth (ev_var rfl) (by decide +kernel) (eva_t (ev_neg (ev_var rfl)) (eva_t (ev_var rfl) eva_nil)) (by exact ⟨m, q, -a, n, k, rfl, rfl, hL, ha.neg, hn, hp⟩))) (rowsM_len hp) fun v hv => ⟨evb_val (ev_call (eva_t (ev_var rfl) eva_nil) (by walk_at "R_is_bare")), ev_var rfl⟩) rfl


theorem sc_outward_roots : FnScope ["form", "p", "bound", "pairs", "norm", "layers", "times", "a", "roots", "r"] ["form", "p", "bound"] (defScope s_outward_roots) := ⟨rfl, rfl, rfl, by decide +kernel, rfl, by decide +kernel, by decide +kernel⟩
def R_outward_roots (C : Addr) : List D → D → Prop := fun ds r => ∃ (m : Mat) (p : Row) (b : Int), ds = [.t (formT C m), .t (row p), .t (.int b)] ∧ r = .l ((sortP (orP m p b)).map tupP) ∧ formOk m = true ∧ Q m p < 0 ∧ p.sm 50 ∧ 0 ≤ b ∧ b ≤ 500 ∧ 0 < lastM m ∧ lastM m ≤ 500 ∧ OutOk m p b
theorem isq_lim {x : Int} (h : x ≤ 500000) (h0 : 0 ≤ x) : 0 ≤ isq x ∧ isq x ≤ 1000 := by
  have h1 := isq_nn x
  have h2 := (isq_spec h0).1
  refine ⟨h1, Int.not_lt.1 fun z => ?_⟩
  have := Int.mul_le_mul (show (1001 : Int) ≤ isq x by omega) (show (1001 : Int) ≤ isq x by omega) (by decide) h1
  omega
theorem flat_take {α : Type} (f : Int → List α) {ns : List Int} {i : Nat} {n : Int} (h : ns[i]? = some n) : (ns.take (i + 1)).flatMap f = (ns.take i).flatMap f ++ f n := by
  rw [take_snoc h, List.flatMap_append, List.flatMap_cons, List.flatMap_nil, List.append_nil]
theorem flat_le {α : Type} (f : Int → List α) (ns : List Int) (i : Nat) : ((ns.take i).flatMap f).length ≤ (ns.flatMap f).length := by
  have e : ns.flatMap f = (ns.take i).flatMap f ++ (ns.drop i).flatMap f := by rw [← List.flatMap_append, List.take_append_drop]
  rw [e, List.length_append]
  omega
theorem flat_one {α : Type} (f : Int → List α) {ns : List Int} {i : Nat} {n : Int} (h : ns[i]? = some n) : ((ns.take i).flatMap f).length + (f n).length ≤ (ns.flatMap f).length := by
  have := flat_le f ns (i + 1)
  rw [flat_take f h, List.length_append] at this
  exact this
theorem flatN_le {α : Type} (f : Nat → List α) {i n : Nat} (h : i ≤ n) : ((List.range i).flatMap f).length ≤ ((List.range n).flatMap f).length := by
  obtain ⟨k, rfl⟩ := Nat.exists_eq_add_of_le h
  rw [List.range_add, List.flatMap_append, List.length_append]
  omega
theorem ok_outward_roots (T : Txt K mg) : FnOk P w K mg base CX0 9 T.a_outward_roots T.fd_outward_roots ["form", "p", "bound"] (spD K (R_outward_roots T.C_Form)) := by
  refine fn_d T.F_outward_roots sc_outward_roots (fun ds r h => ?_) (fun cdv A outer s H E hr => ?_)
  · obtain ⟨m, p, b, rfl, _⟩ := h
    rfl
  · have hu := hr.units
    have G_kinds : FnOk P w K mg base CX0 1 T.a_kinds T.fd_kinds ["form"] (spD K (R_kinds T.C_Form)) := ok_kinds T
    have G_layers_of_kind : FnOk P w K mg base CX0 8 T.a_layers_of_kind T.fd_layers_of_kind ["form", "p", "norm"] (spD K (R_layers_of_kind T.C_Layers T.C_Form)) := ok_layers_of_kind T
    have G_roots_of_layer : FnOk P w K mg base CX0 6 T.a_roots_of_layer T.fd_roots_of_layer ["layers", "a", "norm"] (spD K (R_roots_of_layer T.C_Layers T.C_Form)) := ok_roots_of_layer T
    have G_is_outward : FnOk P w K mg base CX0 4 T.a_is_outward T.fd_is_outward ["form", "p", "r"] (spD K (R_is_outward T.C_Form)) := ok_is_outward T
    refine ⟨_, (pss_cons (ps_set (i := 3) sc_outward_roots.nd rfl (by first | exact Or.inl rfl | exact Or.inr rfl) (pe_lst pa_nil))
    (pss_cons (ps_for PassesOwn.never rfl (pki_list K (pe_call G_kinds (hr.mono (by decide)) (by rfl) T.g_kinds T.F_kinds.kp T.b_kinds .nil pass0 (pa_cons (pv 0) pa_nil))) (pg_name (i := 4) sc_outward_roots.nd rfl (by first | exact Or.inl rfl | exact Or.inr rfl)) (pss_cons (ps_set (i := 5) sc_outward_roots.nd rfl (by first | exact Or.inl rfl | exact Or.inr rfl) (pe_call G_layers_of_kind (hr.mono (by decide)) (by rfl) T.g_layers_of_kind T.F_layers_of_kind.kp T.b_layers_of_kind .nil pass0 (pa_cons (pv 0) (pa_cons (pv 1) (pa_cons (pv 4) pa_nil)))))
    (pss_cons (ps_set (i := 6) sc_outward_roots.nd rfl (by first | exact Or.inl rfl | exact Or.inr rfl) (pe_op op_fdivW (pe_op op_mulW pe_int (pk_fld K (pv 0) rfl)) (pv 4)))
    (pss_one (ps_for PassesOwn.never rfl (pi_range3 (by rfl) T.z_range (pa_cons pe_int (pa_cons (pe_op op_add (pe_callBfun cr_isqrt (by rfl) T.z_isqrt (pa_cons (pe_op op_mulW (pv 2) (pv 4)) pa_nil)) pe_int) (pa_cons (pk_fld K (pv 5) rfl) pa_nil)))) (pg_name (i := 7) sc_outward_roots.nd rfl (by first | exact Or.inl rfl | exact Or.inr rfl)) (pss_cons (ps_set (i := 8) sc_outward_roots.nd rfl (by first | exact Or.inl rfl | exact Or.inr rfl) (pe_call G_roots_of_layer (hr.mono (by decide)) (by rfl) T.g_roots_of_layer T.F_roots_of_layer.kp T.b_roots_of_layer .nil pass0 (pa_cons (pv 5) (pa_cons (pv 7) (pa_cons (pv 4) pa_nil)))))
    (pss_one (ps_expr (pe_bm PySem.F.plainAttrs_list PySem.F.slot_list_extend PySem.F.type_list_extend mt_extend (pv 3) (pa_cons (pe_lc (own := [("r", 9)]) (g := (gName 9)) rfl sc_outward_roots.nd (pki_list K (pv 8)) (blkOk_by (own := [("r", 9)]) (N := ["form", "p", "bound", "pairs", "norm", "layers", "times", "a", "roots", "r"]) (sc := defScope s_outward_roots) (by decide +kernel)) (fun _ _ _ _ _ => (pg_name (i := 9) sc_outward_roots.nd rfl (by first | exact Or.inl rfl | exact Or.inr rfl))) (fun _ _ _ _ _ => (pts_one (pt_val (pe_call G_is_outward (hr.mono (by decide)) (by rfl) T.g_is_outward T.F_is_outward.kp T.b_is_outward .nil pass0 (pa_cons (pv 0) (pa_cons (pv 1) (pa_cons (pv 9) pa_nil))))))) (fun _ _ _ _ _ => (pe_tup (pa_cons (pe_op op_mulW (pe_op op_mulW (pv 7) (pv 7)) (pv 6)) (pa_cons (pv 9) pa_nil))))) pa_nil))))))))))
    (pss_one (ps_ret (pe_callB (ck_sortedP K hu) (by rfl) T.z_sorted (by decide +kernel) (pa_cons (pv 3) pa_nil)))))), fun ds r h => ?_⟩
    obtain ⟨m, p, b, rfl, rfl, hA, hq, hp, hb0, hb1, hl0, hl1, hO⟩ := h
    have hs : m.sm 10 := items_sm (formOk_items hA)
    have hs20 : m.sm 20 := hs.mono (by decide)
    have hls : Sm 20 (lastM m) := by unfold Sm; omega
    have hbs : Sm 20 b := by unfold Sm; omega
    show Sv K W0 _ [D.t (formT T.C_Form m), D.t (row p), D.t (.int b), D.no, D.no, D.no, D.no, D.no, D.no, D.no] _
    refine sv_then [D.t (formT T.C_Form m), D.t (row p), D.t (.int b), D.own [], D.no, D.no, D.no, D.no, D.no, D.no] (sv_setF (xs := []) (evf_lsts evt_nil (le_ok rfl)) rfl) ?_
    refine sv_seq (fun G => ∃ d4 d5 d6 d7 d8, G = [D.t (formT T.C_Form m), D.t (row p), D.t (.int b), D.own ((orP m p b).map tupP), d4, d5, d6, d7, d8, D.no]) ?_ ?_
    · refine sv_forF (xs := intsT (kindsM m)) (fun i G => ∃ d4 d5 d6 d7 d8, G = [D.t (formT T.C_Form m), D.t (row p), D.t (.int b), D.own ((((kindsM m).take i).flatMap (orN m p b)).map tupP), d4, d5, d6, d7, d8, D.no]) (evf_call (eva_t (ev_var rfl) eva_nil) (by exact ⟨m, rfl, rfl, hs20, hl0, hl1⟩)) ⟨_, _, _, _, _, rfl⟩ ?_ ?_
      · rintro i x G hx ⟨d4, d5, d6, d7, d8, rfl⟩
        unfold intsT at hx
        rw [List.getElem?_map] at hx
        obtain ⟨n, hn, rfl⟩ := Option.map_eq_some_iff.mp hx
        have hnm := List.mem_of_getElem? hn
        obtain ⟨hn0, hn1⟩ := kinds_mem hnm
        have hns : Sm 20 n := by unfold Sm; omega
        have hlay := hO.lay n hnm
        have hgs := hO.gs n hnm
        have hg0 := hlay.hg
        have hbn0 : 0 ≤ b * n := Int.mul_nonneg hb0 (by omega)
        have hbn1 : b * n ≤ 500000 := by
          have := Int.mul_le_mul hb1 (show n ≤ 1000 by omega) (by omega) (by decide)
          omega
        obtain ⟨q0, q1⟩ := isq_lim hbn1 hbn0
        have hone := flat_one (orN m p b) hn
        have hlen := hO.len
        have hC : CDivW (2 * lastM m) n := divok hn0 hns (by decide)
        refine ⟨_, gd_name 4 _, ?_⟩
        rw [flat_take _ hn]
        generalize (((kindsM m).take i).flatMap (orN m p b)) = acc at *
        have hone' : acc.length + (orN m p b n).length ≤ 1000000 := by
          have : (orP m p b).length = ((kindsM m).flatMap (orN m p b)).length := rfl
          omega
        show Sv K W0 _ [D.t (formT T.C_Form m), D.t (row p), D.t (.int b), D.own (acc.map tupP), D.t (.int n), d5, d6, d7, d8, D.no] _
        refine sv_then [D.t (formT T.C_Form m), D.t (row p), D.t (.int b), D.own (acc.map tupP), D.t (.int n), D.t (layT T.C_Layers T.C_Form m (layN m p n)), d6, d7, d8, D.no] (sv_set (x := layT T.C_Layers T.C_Form m (layN m p n)) (ev_call (eva_t (ev_var rfl) (eva_t (ev_var rfl) (eva_t (ev_var rfl) eva_nil))) (by exact ⟨m, p, n, rfl, rfl, hA, hq, hp, hn0, by omega, hO.lat n hnm⟩)) rfl) ?_
        refine sv_then [D.t (formT T.C_Form m), D.t (row p), D.t (.int b), D.own (acc.map tupP), D.t (.int n), D.t (layT T.C_Layers T.C_Form m (layN m p n)), D.t (.int (2 * lastM m / n)), d7, d8, D.no] (sv_set (x := .int (2 * lastM m / n)) (ev_fdivW (ev_mul ev_int (ev_fld 2 (ns := ["table", "determinant", "last"]) (ts := [mat m, .int (det m), .int (lastM m)]) (ev_var rfl) T.c_Form T.n_Form_last rfl (by decide +kernel) rfl) (by walk_at "smk")) (ev_var rfl) hC) rfl) ?_
        have htm : Sm 30 (2 * lastM m / n) := (Kx.smdiv (show Sm 25 (2 * lastM m) by unfold Sm; omega)).mono (by decide)
        refine sv_range3p (a := 0) (b := isq (b * n) + 1) (c := (layN m p n).g) (fun k G => ∃ d7 d8, G = [D.t (formT T.C_Form m), D.t (row p), D.t (.int b), D.own ((acc ++ (List.range k).flatMap fun (i : Nat) => orE m p n (0 + (i : Int) * (layN m p n).g)).map tupP), D.t (.int n), D.t (layT T.C_Layers T.C_Form m (layN m p n)), D.t (.int (2 * lastM m / n)), d7, d8, D.no]) ev_int (ev_add (ev_isqrt (ev_mul (ev_var rfl) (ev_var rfl) (by walk_at "smk")) hbn0 (show Sm 20 (b * n) by unfold Sm; omega) (by decide)) ev_int) (ev_fld 1 (ns := ["form", "step", "top", "short", "long"]) (ts := [formT T.C_Form m, .int (layN m p n).g, row (layN m p n).r, row (lyU m (layN m p n)), row (lyV m (layN m p n))]) (ev_var rfl) T.c_Layers T.n_Layers_step rfl (by decide +kernel) rfl) hg0 hgs (by decide) (by omega) ⟨_, _, by rw [List.range_zero, List.flatMap_nil, List.append_nil]⟩ ?_ ?_
        · rintro k G hk ⟨d7, d8, rfl⟩
          have hk' : k < orC m p b n := hk
          have hpt := hO.pt n hnm k hk'
          have hlt := rgN_lt hg0 hk
          have ha0 : 0 ≤ (k : Int) * (layN m p n).g := Int.mul_nonneg (by omega) (by omega)
          have hle1 := flatN_le (fun (i : Nat) => orE m p n (0 + (i : Int) * (layN m p n).g)) (show k + 1 ≤ orC m p b n from hk')
          have e1 : ((List.range (k + 1)).flatMap fun (i : Nat) => orE m p n (0 + (i : Int) * (layN m p n).g)) = ((List.range k).flatMap fun (i : Nat) => orE m p n (0 + (i : Int) * (layN m p n).g)) ++ orE m p n (0 + (k : Int) * (layN m p n).g) := by
            rw [List.range_succ, List.flatMap_append, List.flatMap_cons, List.flatMap_nil, List.append_nil]
          have hle2 : ((List.range (k + 1)).flatMap fun (i : Nat) => orE m p n (0 + (i : Int) * (layN m p n).g)).length ≤ (orN m p b n).length := hle1
          rw [e1] at hle2 ⊢
          rw [List.length_append] at hle2
          have has : Sm 20 (0 + (k : Int) * (layN m p n).g) := by unfold Sm; omega
          generalize ((List.range k).flatMap fun (i : Nat) => orE m p n (0 + (i : Int) * (layN m p n).g)) = acc2 at *
          generalize 0 + (k : Int) * (layN m p n).g = a at *
          refine ⟨_, gd_name 7 _, ?_⟩
          show Sv K W0 _ [D.t (formT T.C_Form m), D.t (row p), D.t (.int b), D.own ((acc ++ acc2).map tupP), D.t (.int n), D.t (layT T.C_Layers T.C_Form m (layN m p n)), D.t (.int (2 * lastM m / n)), D.t (.int a), d8, D.no] _
          refine sv_then [D.t (formT T.C_Form m), D.t (row p), D.t (.int b), D.own ((acc ++ acc2).map tupP), D.t (.int n), D.t (layT T.C_Layers T.C_Form m (layN m p n)), D.t (.int (2 * lastM m / n)), D.t (.int a), D.own (((rowsM m (layN m p n) (-a) n).filter bareB).map row), D.no] (sv_setF (xs := ((rowsM m (layN m p n) (-a) n).filter bareB).map row) (evf_call (eva_t (ev_var rfl) (eva_t (ev_var rfl) (eva_t (ev_var rfl) eva_nil))) (by exact ⟨m, layN m p n, a, n, 300, rfl, rfl, hlay, has.mono (by decide), hns.mono (by decide), fun _ => hpt⟩)) rfl) ?_
          have hrl : ((rowsM m (layN m p n) (-a) n).filter bareB).length < 1000000 := Nat.lt_of_le_of_lt (List.length_filter_le _ _) (rowsM_len fun _ => hpt)
          refine sv_extend (ys := (orE m p n a).map tupP) rfl (evf_eq (evf_lcRow (rs := (rowsM m (layN m p n) (-a) n).filter bareB) (outB m p) (fun r => tupP (a * a * (2 * lastM m / n), r)) (evl_v (by rfl)) hrl (fun r hr => ?_)) (by unfold orE orR; rw [List.map_map]; rfl)) ?_ ⟨D.t (.int a), D.own (((rowsM m (layN m p n) (-a) n).filter bareB).map row), ?_⟩
          · have hr1 := (List.mem_filter.mp hr).1
            have hrs := rowsM_sm hlay ((has.neg).mono (by decide)) (hns.mono (by decide)) (fun _ => hpt) hr1
            have hrq : Q m r = n := ((mem_lay hA hq (kindN_pos hn0) (-a) n r).1 hr1).2.2
            refine ⟨evb_val (ev_call (eva_t (ev_var rfl) (eva_t (ev_var rfl) (eva_t (ev_var rfl) eva_nil))) (by exact ⟨m, p, r, rfl, rfl, hs20, hp.mono (by decide), hrs.mono (by decide), by omega⟩)), fun _ => ev_tups (evt_cons (ev_mul (ev_mul (ev_var rfl) (ev_var rfl) (by walk_at "smk")) (ev_var rfl) (by walk_at "smk")) (evt_cons (ev_var rfl) evt_nil)) (le_ok rfl)⟩
          · rw [List.length_map, List.length_map, List.length_append]
            omega
          · rw [← List.append_assoc, List.map_append (l₁ := acc ++ acc2)]
            rfl
        · rintro G ⟨d7, d8, rfl⟩
          exact ⟨_, _, _, _, _, rfl⟩
      · rintro G ⟨d4, d5, d6, d7, d8, rfl⟩
        refine ⟨d4, d5, d6, d7, d8, ?_⟩
        unfold intsT
        rw [List.length_map, List.take_length]
        rfl
    rintro G ⟨d4, d5, d6, d7, d8, rfl⟩
    exact sv_retF (evf_sortedP (evl_v (by rfl))) rfl


theorem sc_outermost : FnScope ["p", "roots", "walls", "r", "turns", "s", "turn"] ["p", "roots"] (defScope s_outermost) := ⟨rfl, rfl, rfl, by decide +kernel, rfl, by decide +kernel, by decide +kernel⟩
def R_outermost : List D → D → Prop := fun ds r => ∃ (p : Row) (rs : List Row), ds = [.t (row p), .l (rs.map row)] ∧ r = .l ((omM p rs).map row) ∧ p.sm 15000 ∧ (∀ r ∈ rs, r.sm 15000) ∧ rs.length < 1000000
theorem ok_outermost (T : Txt K mg) : FnOk P w K mg base CX0 3 T.a_outermost T.fd_outermost ["p", "roots"] (spD K R_outermost) := by
  refine fn_d T.F_outermost sc_outermost (fun ds r h => ?_) (fun cdv A outer s H E hr => ?_)
  · obtain ⟨p, rs, rfl, _⟩ := h
    rfl
  · have hu := hr.units
    have G_determinant_of : FnOk P w K mg base CX0 2 T.a_determinant_of T.fd_determinant_of ["matrix"] (spD K R_determinant_of) := ok_determinant_of T
    refine ⟨_, (pss_cons (ps_set (i := 2) sc_outermost.nd rfl (by first | exact Or.inl rfl | exact Or.inr rfl) (pe_lst pa_nil))
    (pss_cons (ps_for PassesOwn.never rfl (pki_list K (pv 1)) (pg_name (i := 3) sc_outermost.nd rfl (by first | exact Or.inl rfl | exact Or.inr rfl)) (pss_cons (ps_setLc (i := 4) (own := [("s", 5)]) (g := (gName 5)) rfl sc_outermost.nd rfl rfl (sw_true rfl rfl rfl (by decide +kernel)) (pki_list K (pv 1)) (blkOk_by (own := [("s", 5)]) (N := ["p", "roots", "walls", "r", "turns", "s", "turn"]) (sc := defScope s_outermost) (by decide +kernel)) (fun _ _ _ _ _ => (pg_name (i := 5) sc_outermost.nd rfl (by first | exact Or.inl rfl | exact Or.inr rfl))) (fun _ _ _ _ _ => (pts_one (pt_cmpR (opk_neD K hu) (pv 5) (pv 3) (nomark _)))) (fun _ _ _ _ _ => (pe_call G_determinant_of (hr.mono (by decide)) (by rfl) T.g_determinant_of T.F_determinant_of.kp T.b_determinant_of .nil pass0 (pa_cons (pe_tup (pa_cons (pv 0) (pa_cons (pv 3) (pa_cons (pv 5) pa_nil)))) pa_nil))))
    (pss_one (ps_if (PW.pt (pw_or (pt_val (pe_callB (ck_all K rfl) (by rfl) T.z_all (by decide +kernel) (pa_cons (pe_lc (own := [("turn", 6)]) (g := (gName 6)) rfl sc_outermost.nd (pki_list K (pv 4)) (blkOk_by (own := [("turn", 6)]) (N := ["p", "roots", "walls", "r", "turns", "s", "turn"]) (sc := defScope s_outermost) (by decide +kernel)) (fun _ _ _ _ _ => (pg_name (i := 6) sc_outermost.nd rfl (by first | exact Or.inl rfl | exact Or.inr rfl))) (fun _ _ _ _ _ => pts_nil) (fun _ _ _ _ _ => (pe_cmpR op_gt (pv 6) pe_int (nomark _)))) pa_nil))) (pw_or1 (pt_val (pe_callB (ck_all K rfl) (by rfl) T.z_all (by decide +kernel) (pa_cons (pe_lc (own := [("turn", 6)]) (g := (gName 6)) rfl sc_outermost.nd (pki_list K (pv 4)) (blkOk_by (own := [("turn", 6)]) (N := ["p", "roots", "walls", "r", "turns", "s", "turn"]) (sc := defScope s_outermost) (by decide +kernel)) (fun _ _ _ _ _ => (pg_name (i := 6) sc_outermost.nd rfl (by first | exact Or.inl rfl | exact Or.inr rfl))) (fun _ _ _ _ _ => pts_nil) (fun _ _ _ _ _ => (pe_cmpR op_lt (pv 6) pe_int (nomark _)))) pa_nil)))))) (pss_one (ps_expr (pe_bm PySem.F.plainAttrs_list PySem.F.slot_list_append PySem.F.type_list_append mt_append (pv 2) (pa_cons (pv 3) pa_nil)))) pss_nil))))
    (pss_one (ps_ret (pv 2))))), fun ds r h => ?_⟩
    obtain ⟨p, rs, rfl, rfl, hp, hrs, hl⟩ := h
    show Sv K W0 _ [D.t (row p), D.l (rs.map row), D.no, D.no, D.no, D.no, D.no] _
    refine sv_then [D.t (row p), D.l (rs.map row), D.own [], D.no, D.no, D.no, D.no] (sv_setF (xs := []) (evf_lsts evt_nil (le_ok rfl)) rfl) ?_
    refine sv_seq (fun G => ∃ d3 d4, G = [D.t (row p), D.l (rs.map row), D.own ((omM p rs).map row), d3, d4, D.no, D.no]) ?_ ?_
    · refine sv_forV (k := 1) (xs := rs.map row) (fun i G => ∃ d3 d4, G = [D.t (row p), D.l (rs.map row), D.own (((rs.take i).filter (omB p rs)).map row), d3, d4, D.no, D.no]) rfl ⟨_, _, rfl⟩ ?_ ?_
      · rintro i x G hx ⟨d3, d4, rfl⟩
        rw [List.getElem?_map] at hx
        obtain ⟨r, hr', rfl⟩ := Option.map_eq_some_iff.mp hx
        have hrm := List.mem_of_getElem? hr'
        have h1 := hrs r hrm
        have hil : i < rs.length := (List.getElem?_eq_some_iff.mp hr').1
        refine ⟨_, gd_name 3 _, ?_⟩
        rw [take_snoc hr', List.filter_append, List.map_append]
        have hacc : ((rs.take i).filter (omB p rs)).length < 1000000 := by
          have := List.length_filter_le (omB p rs) (rs.take i)
          rw [List.length_take] at this
          omega
        generalize (rs.take i).filter (omB p rs) = acc at *
        show Sv K W0 _ [D.t (row p), D.l (rs.map row), D.own (acc.map row), D.t (row r), d4, D.no, D.no] _
        refine sv_then [D.t (row p), D.l (rs.map row), D.own (acc.map row), D.t (row r), D.own ((omT p rs r).map Cz.T.int), D.no, D.no] (sv_setF (xs := (omT p rs r).map Cz.T.int) (evf_eq (evf_lcRow (rs := rs) (fun s => !decide (s = r)) (fun s => .int (det ⟨p, r, s⟩)) (evl_v (by rfl)) hl (fun s hs => ⟨evb_test (ev_neR (ev_var rfl) (ev_var rfl)), fun _ => ?_⟩)) (by unfold omT; rw [List.map_map]; rfl)) rfl) ?_
        · have h2 := hrs s hs
          exact ev_call (eva_t (x := mat ⟨p, r, s⟩) (ev_mat (ev_var rfl) (ev_var rfl) (ev_var rfl)) eva_nil) (by exact ⟨⟨p, r, s⟩, 15000, rfl, rfl, ⟨hp, h1, h2⟩, by decide⟩)
        have hT : (omT p rs r).length < 1000000 := by
          unfold omT
          rw [List.length_map]
          exact Nat.lt_of_le_of_lt (List.length_filter_le _ _) hl
        have eB : omB p rs r = (((omT p rs r).map fun t => decide (t > 0)).all id || ((omT p rs r).map fun t => decide (t < 0)).all id) := rfl
        refine sv_if (b := omB p rs r) (evb_eq (evb_or2 (evb_val (ev_all ((omT p rs r).map fun t => decide (t > 0)) (evl_f (evf_eq (evf_lcG (ws := omT p rs r) Cz.T.int (fun t => .bl (decide (t > 0))) (evl_v (by rfl)) hT (fun t _ => ev_gt (ev_var rfl) ev_int)) (by rw [List.map_map]; rfl))))) (evb_val (ev_all ((omT p rs r).map fun t => decide (t < 0)) (evl_f (evf_eq (evf_lcG (ws := omT p rs r) Cz.T.int (fun t => .bl (decide (t < 0))) (evl_v (by rfl)) hT (fun t _ => ev_lt (ev_var rfl) ev_int)) (by rw [List.map_map]; rfl)))))) eB.symm) (fun h => ?_) (fun h => ?_)
        · refine sv_append rfl (ev_var rfl) (by rw [List.length_map]; exact hacc) ⟨D.t (row r), D.own ((omT p rs r).map Cz.T.int), ?_⟩
          rw [List.filter_cons_of_pos h]
          rfl
        · refine sv_next ⟨D.t (row r), D.own ((omT p rs r).map Cz.T.int), ?_⟩
          rw [List.filter_cons_of_neg (by rw [h]; decide), List.filter_nil, List.map_nil, List.append_nil]
      · rintro G ⟨d3, d4, rfl⟩
        rw [List.length_map, List.take_length]
        exact ⟨_, _, rfl⟩
    rintro G ⟨d3, d4, rfl⟩
    exact sv_retO rfl rfl
theorem sc_walls_among : FnScope ["form", "p", "pairs", "walls", "lines", "depth", "r", "wall", "line"] ["form", "p", "pairs"] (defScope s_walls_among) := ⟨rfl, rfl, rfl, by decide +kernel, rfl, by decide +kernel, by decide +kernel⟩
def R_walls_among (C : Addr) : List D → D → Prop := fun ds r => ∃ (m : Mat) (p : Row) (ps : List NR), ds = [.t (formT C m), .t (row p), .l (ps.map tupP)] ∧ r = .l ((waM m p ps).map row) ∧ m.sm 20 ∧ p.sm 15000 ∧ (∀ q ∈ ps, q.2.sm 15000) ∧ ps.length < 400000
theorem ok_walls_among (T : Txt K mg) : FnOk P w K mg base CX0 4 T.a_walls_among T.fd_walls_among ["form", "p", "pairs"] (spD K (R_walls_among T.C_Form)) := by
  refine fn_d T.F_walls_among sc_walls_among (fun ds r h => ?_) (fun cdv A outer s H E hr => ?_)
  · obtain ⟨m, p, ps, rfl, _⟩ := h
    rfl
  · have hu := hr.units
    have G_outermost : FnOk P w K mg base CX0 3 T.a_outermost T.fd_outermost ["p", "roots"] (spD K R_outermost) := ok_outermost T
    have G_image : FnOk P w K mg base CX0 2 T.a_image T.fd_image ["matrix", "row"] (spD K R_image) := ok_image T
    have G_dot : FnOk P w K mg base CX0 1 T.a_dot T.fd_dot ["first", "second"] (spD K R_dot) := ok_dot T
    refine ⟨_, (pss_cons (ps_set (i := 3) sc_walls_among.nd rfl (by first | exact Or.inl rfl | exact Or.inr rfl) (pe_call G_outermost (hr.mono (by decide)) (by rfl) T.g_outermost T.F_outermost.kp T.b_outermost .nil pass0 (pa_cons (pv 1) (pa_cons (pe_lc (own := [("depth", 5), ("r", 6)]) (g := (gTup K 2 (gCons (gName 5) (gCons (gName 6) gNil)))) rfl sc_walls_among.nd (pki_list K (pv 2)) (blkOk_by (own := [("depth", 5), ("r", 6)]) (N := ["form", "p", "pairs", "walls", "lines", "depth", "r", "wall", "line"]) (sc := defScope s_walls_among) (by decide +kernel)) (fun _ _ _ _ _ => (pgk_tup K rfl (pgs_cons (pg_name (i := 5) sc_walls_among.nd rfl (by first | exact Or.inl rfl | exact Or.inr rfl)) (pgs_cons (pg_name (i := 6) sc_walls_among.nd rfl (by first | exact Or.inl rfl | exact Or.inr rfl)) pgs_nil)))) (fun _ _ _ _ _ => (pts_one (pt_cmpR op_eq (pv 5) pe_int (nomark _)))) (fun _ _ _ _ _ => (pv 6))) pa_nil))))
    (pss_cons (ps_setLc (i := 4) (own := [("wall", 7)]) (g := (gName 7)) rfl sc_walls_among.nd rfl rfl (sw_true rfl rfl rfl (by decide +kernel)) (pki_list K (pv 3)) (blkOk_by (own := [("wall", 7)]) (N := ["form", "p", "pairs", "walls", "lines", "depth", "r", "wall", "line"]) (sc := defScope s_walls_among) (by decide +kernel)) (fun _ _ _ _ _ => (pg_name (i := 7) sc_walls_among.nd rfl (by first | exact Or.inl rfl | exact Or.inr rfl))) (fun _ _ _ _ _ => pts_nil) (fun _ _ _ _ _ => (pe_call G_image (hr.mono (by decide)) (by rfl) T.g_image T.F_image.kp T.b_image .nil pass0 (pa_cons (pk_fld K (pv 0) rfl) (pa_cons (pv 7) pa_nil)))))
    (pss_cons (ps_for PassesOwn.never rfl (pki_list K (pv 2)) (pgk_tup K rfl (pgs_cons (pg_name (i := 5) sc_walls_among.nd rfl (by first | exact Or.inl rfl | exact Or.inr rfl)) (pgs_cons (pg_name (i := 6) sc_walls_among.nd rfl (by first | exact Or.inl rfl | exact Or.inr rfl)) pgs_nil))) (pss_one (ps_if (PW.pt (pw_and (pt_cmpR op_gt (pv 5) pe_int (nomark _)) (pw_and1 (pt_val (pe_callB (ck_all K rfl) (by rfl) T.z_all (by decide +kernel) (pa_cons (pe_lc (own := [("line", 8)]) (g := (gName 8)) rfl sc_walls_among.nd (pki_list K (pv 4)) (blkOk_by (own := [("line", 8)]) (N := ["form", "p", "pairs", "walls", "lines", "depth", "r", "wall", "line"]) (sc := defScope s_walls_among) (by decide +kernel)) (fun _ _ _ _ _ => (pg_name (i := 8) sc_walls_among.nd rfl (by first | exact Or.inl rfl | exact Or.inr rfl))) (fun _ _ _ _ _ => pts_nil) (fun _ _ _ _ _ => (pe_cmpR op_le (pe_call G_dot (hr.mono (by decide)) (by rfl) T.g_dot T.F_dot.kp T.b_dot .nil pass0 (pa_cons (pv 8) (pa_cons (pv 6) pa_nil))) pe_int (nomark _)))) pa_nil)))))) (pss_cons (ps_expr (pe_bm PySem.F.plainAttrs_list PySem.F.slot_list_append PySem.F.type_list_append mt_append (pv 3) (pa_cons (pv 6) pa_nil)))
    (pss_one (ps_expr (pe_bm PySem.F.plainAttrs_list PySem.F.slot_list_append PySem.F.type_list_append mt_append (pv 4) (pa_cons (pe_call G_image (hr.mono (by decide)) (by rfl) T.g_image T.F_image.kp T.b_image .nil pass0 (pa_cons (pk_fld K (pv 0) rfl) (pa_cons (pv 6) pa_nil))) pa_nil))))) pss_nil)))
    (pss_one (ps_ret (pv 3)))))), fun ds r h => ?_⟩
    obtain ⟨m, p, ps, rfl, rfl, hm, hp, hps, hl⟩ := h
    have h0m : ∀ r ∈ (ps.filter fun q => decide (q.1 = 0)).map (·.2), r.sm 15000 := fun r hr' => by
      obtain ⟨q, hq, rfl⟩ := List.mem_map.mp hr'
      exact hps q (List.mem_filter.mp hq).1
    have h0l : ((ps.filter fun q => decide (q.1 = 0)).map (·.2)).length < 400000 := by
      rw [List.length_map]
      exact Nat.lt_of_le_of_lt (List.length_filter_le _ _) hl
    have hws : ∀ w ∈ wa0 p ps, w.sm 15000 := fun w hw => h0m w (List.mem_filter.mp hw).1
    have hwl : (wa0 p ps).length < 400000 := Nat.lt_of_le_of_lt (List.length_filter_le _ _) h0l
    show Sv K W0 _ [D.t (formT T.C_Form m), D.t (row p), D.l (ps.map tupP), D.no, D.no, D.no, D.no, D.no, D.no] _
    refine sv_then [D.t (formT T.C_Form m), D.t (row p), D.l (ps.map tupP), D.own ((wa0 p ps).map row), D.no, D.no, D.no, D.no, D.no] (sv_setF (xs := (wa0 p ps).map row) (evf_call (eva_t (ev_var rfl) (eva_l (evl_f (evf_eq (evf_lcNR (ps := ps) (fun q => decide (q.1 = 0)) (fun q => row q.2) (by decide) (evl_v (by rfl)) (by omega) (fun q hq => ⟨evb_test (ev_eqI (ev_var rfl) ev_int), fun _ => ev_var rfl⟩)) (show _ = ((ps.filter fun q => decide (q.1 = 0)).map (·.2)).map row by rw [List.map_map]; rfl))) eva_nil)) (by exact ⟨p, _, rfl, rfl, hp, h0m, by omega⟩)) rfl) ?_
    have himg : ∀ w : Row, w.sm 15000 → ∀ {Γ : List D} {ta tb : TE}, Ev K ta Γ (mat m) → Ev K tb Γ (row w) → Ev K (tCall (spD K R_image) [] E0 (tCons ta (tCons tb tNil))) Γ (row (image m w)) := fun w hw Γ ta tb h1 h2 => ev_call (eva_t h1 (eva_t h2 eva_nil)) (by exact ⟨m, w, 20, 15000, rfl, rfl, hm, hw, by decide, by decide⟩)
    refine sv_then [D.t (formT T.C_Form m), D.t (row p), D.l (ps.map tupP), D.own ((wa0 p ps).map row), D.own (((wa0 p ps).map (image m)).map row), D.no, D.no, D.no, D.no] (sv_setF (xs := ((wa0 p ps).map (image m)).map row) (evf_eq (evf_lcG (ws := wa0 p ps) row (fun w => row (image m w)) (evl_v (by rfl)) (by omega) (fun w hw => himg w (hws w hw) (ev_fld 0 (ns := ["table", "determinant", "last"]) (ts := [mat m, .int (det m), .int (lastM m)]) (ev_var rfl) T.c_Form T.n_Form_table rfl (by decide +kernel) rfl) (ev_var rfl))) (by rw [List.map_map]; rfl)) rfl) ?_
    have hall : ∀ i, ∀ w ∈ (ps.take i).foldl (waS m) (wa0 p ps), w.sm 15000 := fun i => wa_mem _ _ hws fun q hq => hps q (List.mem_of_mem_take hq)
    have hlen : ∀ i, ((ps.take i).foldl (waS m) (wa0 p ps)).length < 800000 := fun i => by
      have := wa_len (m := m) (ps.take i) (wa0 p ps)
      rw [List.length_take] at this
      omega
    refine sv_seq (fun G => ∃ d5 d6, G = [D.t (formT T.C_Form m), D.t (row p), D.l (ps.map tupP), D.own ((waM m p ps).map row), D.own (((waM m p ps).map (image m)).map row), d5, d6, D.no, D.no]) ?_ ?_
    · refine sv_forV (k := 2) (xs := ps.map tupP) (fun i G => ∃ d5 d6, G = [D.t (formT T.C_Form m), D.t (row p), D.l (ps.map tupP), D.own (((ps.take i).foldl (waS m) (wa0 p ps)).map row), D.own ((((ps.take i).foldl (waS m) (wa0 p ps)).map (image m)).map row), d5, d6, D.no, D.no]) rfl ⟨_, _, rfl⟩ ?_ ?_
      · rintro i x G hx ⟨d5, d6, rfl⟩
        rw [List.getElem?_map] at hx
        obtain ⟨q, hq, rfl⟩ := Option.map_eq_some_iff.mp hx
        have hqs := hps q (List.mem_of_getElem? hq)
        have hws' := hall i
        have hwl' := hlen i
        have e1 : (ps.take (i + 1)).foldl (waS m) (wa0 p ps) = waS m ((ps.take i).foldl (waS m) (wa0 p ps)) q := by
          rw [take_snoc hq, List.foldl_append]
          rfl
        rw [e1]
        generalize (ps.take i).foldl (waS m) (wa0 p ps) = ws at *
        refine ⟨_, gd_tup rfl (gds_cons (gd_name 5 _) (gds_cons (gd_name 6 _) gds_nil)), ?_⟩
        show Sv K W0 _ [D.t (formT T.C_Form m), D.t (row p), D.l (ps.map tupP), D.own (ws.map row), D.own ((ws.map (image m)).map row), D.t (.int q.1), D.t (row q.2), D.no, D.no] _
        refine sv_if (b := waB m ws q) (evb_and2 (evb_test (ev_gt (ev_var rfl) ev_int)) (evb_val (ev_all (ws.map fun w => decide (dot (image m w) q.2 ≤ 0)) (evl_f (evf_eq (evf_lcG (ws := ws) (fun w => row (image m w)) (fun w => .bl (decide (dot (image m w) q.2 ≤ 0))) (evl_eq (evl_v (by rfl)) (by rw [List.map_map]; rfl)) (by omega) (fun w hw => ev_le (ev_call (eva_t (ev_var rfl) (eva_t (ev_var rfl) eva_nil)) (by exact ⟨image m w, q.2, 15022, 15000, rfl, rfl, sm_image hm (hws' w hw), hqs, by decide, by decide⟩)) ev_int)) (by rw [List.map_map]; rfl)))))) (fun h => ?_) (fun h => ?_)
        · have e2 : waS m ws q = ws ++ [q.2] := by unfold waS; rw [if_pos h]
          rw [e2]
          refine sv_then [D.t (formT T.C_Form m), D.t (row p), D.l (ps.map tupP), D.own ((ws ++ [q.2]).map row), D.own ((ws.map (image m)).map row), D.t (.int q.1), D.t (row q.2), D.no, D.no] (sv_append rfl (ev_var rfl) (by rw [List.length_map]; omega) (by rw [List.map_append]; rfl)) ?_
          refine sv_append rfl (himg q.2 hqs (ev_fld 0 (ns := ["table", "determinant", "last"]) (ts := [mat m, .int (det m), .int (lastM m)]) (ev_var rfl) T.c_Form T.n_Form_table rfl (by decide +kernel) rfl) (ev_var rfl)) (by rw [List.length_map, List.length_map]; omega) ⟨D.t (.int q.1), D.t (row q.2), ?_⟩
          rw [List.map_append (f := image m), List.map_append (f := row) (l₁ := ws.map (image m))]
          rfl
        · have e2 : waS m ws q = ws := by unfold waS; rw [if_neg (by rw [h]; decide)]
          rw [e2]
          exact sv_next ⟨_, _, rfl⟩
      · rintro G ⟨d5, d6, rfl⟩
        rw [List.length_map, List.take_length]
        exact ⟨_, _, rfl⟩
    rintro G ⟨d5, d6, rfl⟩
    exact sv_retO rfl rfl


theorem sc_check_within : FnScope ["value", "least", "greatest"] ["value", "least", "greatest"] (defScope s_check_within) := ⟨rfl, rfl, rfl, by decide +kernel, rfl, by decide +kernel, by decide +kernel⟩
def bndOk (a b : Int) : Prop := (a = 1 ∧ b = 200) ∨ (a = 0 ∧ b = 300) ∨ (a = 0 ∧ b = 500) ∨ (a = 0 ∧ b = 2000)
def R_check_within (C : Addr) : List D → Rs → Prop := fun ds r => ∃ (x a b : Int), ds = [.t (.int x), .t (.int a), .t (.int b)] ∧ r = (if a ≤ x ∧ x ≤ b then .ok (.t .non) else .er C) ∧ bndOk a b
theorem ok_check_within (T : Txt K mg) : FnOk P w K mg base (L2.CX P w) 3 T.a_check_within T.fd_check_within ["value", "least", "greatest"] (spX K (R_check_within T.C_BadNumber)) := by
  refine fn_x T.F_check_within sc_check_within (fun ds r h => ?_) (fun cdv A outer s H E hr => ?_)
  · obtain ⟨x, a, b, rfl, _⟩ := h
    rfl
  · have hu := hr.units
    have G_is_within : FnOk P w K mg base CX0 2 T.a_is_within T.fd_is_within ["value", "least", "greatest"] (spD K R_is_within) := ok_is_within T
    refine ⟨_, (pss_one (ps_if (pt_not (pt_val (pe_call G_is_within (hr.mono (by decide)) (by rfl) T.g_is_within T.F_is_within.kp T.b_is_within .nil pass0 (pa_cons (pv 0) (pa_cons (pv 1) (pa_cons (pv 2) pa_nil)))))) (pss_one (ps_raise rfl (takes_of rfl rfl rfl rfl) (SkE.pmk_own1 PySem.F.excBase_ValueError T.x_BadNumber T.g_BadNumber T.k_BadNumber (raises_own T.b_BadNumber T.t_BadNumber) rfl (pe_joined (.cons pe_str (.cons (pe_fmt (pv 1)) (.cons pe_str (.cons (pe_fmt (pv 2)) .nil)))))))) pss_nil)), fun ds r h => ?_⟩
    obtain ⟨x, a, b, rfl, hr, hb⟩ := h
    show Sv K _ _ [D.t (.int x), D.t (.int a), D.t (.int b)] _
    refine sv_if (b := !(decide (a ≤ x) && decide (x ≤ b))) (evb_not (evb_val (ev_call (eva_t (ev_var rfl) (eva_t (ev_var rfl) (eva_t (ev_var rfl) eva_nil))) (by walk_at "R_is_within")))) (fun h => ?_) (fun h => sv_next ?_)
    · have hn : ¬ (a ≤ x ∧ x ≤ b) := fun z => by
        rw [decide_eq_true z.1, decide_eq_true z.2] at h
        cases h
      rw [if_neg hn] at hr
      have e : ∀ (a b : Int), (toString a : Str).length ≤ 10 → (toString b : Str).length ≤ 10 → a.natAbs.log2 < 1920 → b.natAbs.log2 < 1920 → ∀ {G : List D}, G[1]? = some (.t (.int a)) → G[2]? = some (.t (.int b)) → ∃ out, EvJ K [tC (.str "the number is not an integer from "), tFmt (tVar 1), tC (.str " to "), tFmt (tVar 2)] G Str.empty out := fun a b ha hb la lb G h1 h2 =>
        ⟨_, evj_cons ev_str (by decide +kernel) (evj_cons (ev_fmtI (ev_var h1) la) (strlen ha (by decide +kernel)) (evj_cons ev_str (strlen2 ha (by decide +kernel)) (evj_cons (ev_fmtI (ev_var h2) lb) (strlen3 ha hb (by decide +kernel)) evj_nil)))⟩
      rcases hb with ⟨rfl, rfl⟩ | ⟨rfl, rfl⟩ | ⟨rfl, rfl⟩ | ⟨rfl, rfl⟩
      · obtain ⟨out, ho⟩ := e 1 200 (by decide +kernel) (by decide +kernel) (by decide) (by decide) (G := [D.t (.int x), D.t (.int 1), D.t (.int 200)]) rfl rfl
        exact sv_raise1 (ev_joined ho) hr
      · obtain ⟨out, ho⟩ := e 0 300 (by decide +kernel) (by decide +kernel) (by decide) (by decide) (G := [D.t (.int x), D.t (.int 0), D.t (.int 300)]) rfl rfl
        exact sv_raise1 (ev_joined ho) hr
      · obtain ⟨out, ho⟩ := e 0 500 (by decide +kernel) (by decide +kernel) (by decide) (by decide) (G := [D.t (.int x), D.t (.int 0), D.t (.int 500)]) rfl rfl
        exact sv_raise1 (ev_joined ho) hr
      · obtain ⟨out, ho⟩ := e 0 2000 (by decide +kernel) (by decide +kernel) (by decide) (by decide) (G := [D.t (.int x), D.t (.int 0), D.t (.int 2000)]) rfl rfl
        exact sv_raise1 (ev_joined ho) hr
    · have hn : a ≤ x ∧ x ≤ b := by simpa using h
      rw [if_pos hn] at hr
      exact hr
local macro_rules | `(tactic| walk_at "R_check_within") => `(tactic| exact ⟨_, _, _, rfl, rfl, by unfold bndOk; omega⟩)

theorem sc_Room__init_ : FnScope ["self", "form", "p"] ["self", "form", "p"] (defScope s_Room__init_) := ⟨rfl, rfl, rfl, by decide +kernel, rfl, by decide +kernel, by decide +kernel⟩
def roomT (C Cf : Addr) (m : Mat) (p : Row) : T := .obj C ["form", "base"] [formT Cf m, row p]
def R_Room__init_ (C Cf CB : Addr) : List D → Rs → Prop := fun ds r => ∃ (m : Mat) (p : Row), ds = [.t (formT Cf m), .t (row p)] ∧ r = (if 0 ≤ Q m p then .er CB else .ok (.t (roomT C Cf m p))) ∧ m.sm 20 ∧ p.sm 1000
theorem ok_Room__init_ (T : Txt K mg) : FnOk P w K mg base (L2.CX P w) 6 T.a_Room__init_ T.fd_Room__init_ ["self", "form", "p"] (spI K T.C_Room (R_Room__init_ T.C_Room T.C_Form T.C_BadBase)) := by
  refine fn_i T.F_Room__init_ sc_Room__init_ (fun ds r h => ?_) (fun ds r h xs hm => ?_) (fun cdv A outer s H E hr => ?_)
  · obtain ⟨m, p, rfl, _⟩ := h
    rfl
  · obtain ⟨m, p, rfl, _⟩ := h
    simp at hm
  · have hu := hr.units
    have G_check_base : FnOk P w K mg base (L2.CX P w) 5 T.a_check_base T.fd_check_base ["form", "p"] (spX K (R_check_base T.C_Form T.C_BadBase)) := ok_check_base T
    refine ⟨_, (pss_cons (ps_expr (pe_call G_check_base (hr.mono (by decide)) (by rfl) T.g_check_base T.F_check_base.kp T.b_check_base .nil (passes_call (takes_of rfl rfl rfl rfl) (fun _ _ _ _ h => h)) (pa_cons (pv 1) (pa_cons (pv 2) pa_nil))))
    (pss_cons (ps_fld (pv 0) (pv 1) rfl)
    (pss_one (ps_fld (pv 0) (pv 2) rfl)))), fun ds r x dx σ H D hR I hok her => ?_⟩
    obtain ⟨m, p, rfl, hr, hm, hp⟩ := hR
    by_cases h : 0 ≤ Q m p
    · rw [if_pos h] at hr
      exact i_doE I (eve_callX (eva_t (ev_var rfl) (eva_t (ev_var rfl) eva_nil)) (by exact ⟨_, _, rfl, (if_pos h).symm, hm, hp⟩)) fun H1 I1 => her H1 _ _ _ hr I1
    · rw [if_neg h] at hr
      exact i_do I (ev_callX (eva_t (ev_var rfl) (eva_t (ev_var rfl) eva_nil)) (by exact ⟨_, _, rfl, (if_neg h).symm, hm, hp⟩)) fun H1 I1 =>
        i_fldV I1 rfl T.c_Room T.n_Room_form rfl (by decide) fun H2 I2 =>
        i_fldV I2 rfl T.c_Room T.n_Room_base rfl (by decide) fun H3 I3 =>
        hok H3 _ _ hr I3
theorem sc_Room_walls : FnScope ["self", "bound"] ["self", "bound"] (defScope s_Room_walls) := ⟨rfl, rfl, rfl, by decide +kernel, rfl, by decide +kernel, by decide +kernel⟩
def wallsM (m : Mat) (p : Row) (b : Int) : List Row := waM m p (sortP (orP m p b))
def R_Room_walls (C Cf CN : Addr) : List D → Rs → Prop := fun ds r => ∃ (m : Mat) (p : Row) (b : Int), ds = [.t (roomT C Cf m p), .t (.int b)] ∧ r = (if 0 ≤ b ∧ b ≤ 500 then .ok (.l ((wallsM m p b).map row)) else .er CN) ∧ formOk m = true ∧ Q m p < 0 ∧ p.sm 50 ∧ 0 < lastM m ∧ lastM m ≤ 500 ∧ (0 ≤ b → b ≤ 500 → OutOk m p b ∧ (orP m p b).length < 400000)
theorem orP_sm {m : Mat} {p : Row} {b : Int} (hb0 : 0 ≤ b) (hb1 : b ≤ 500) (hl1 : lastM m ≤ 500) (hO : OutOk m p b) : ∀ q ∈ orP m p b, q.2.sm 15000 := fun q hq => by
  unfold orP at hq
  obtain ⟨n, hn, hq⟩ := List.mem_flatMap.mp hq
  unfold orN at hq
  obtain ⟨i, hi, hq⟩ := List.mem_flatMap.mp hq
  unfold orE orR at hq
  obtain ⟨r, hr, rfl⟩ := List.mem_map.mp hq
  have hr1 := (List.mem_filter.mp (List.mem_filter.mp hr).1).1
  have hi' := List.mem_range.mp hi
  obtain ⟨hn0, hn1⟩ := kinds_mem hn
  have hlay := hO.lay n hn
  have hlt := rgN_lt hlay.hg hi'
  have ha0 : 0 ≤ (i : Int) * (layN m p n).g := Int.mul_nonneg (by omega) (by have := hlay.hg; omega)
  have hbn0 : 0 ≤ b * n := Int.mul_nonneg hb0 (by omega)
  have hbn1 : b * n ≤ 500000 := by
    have := Int.mul_le_mul hb1 (show n ≤ 1000 by omega) (by omega) (by decide)
    omega
  obtain ⟨q0, q1⟩ := isq_lim hbn1 hbn0
  have has : Sm 20 (-(0 + (i : Int) * (layN m p n).g)) := by unfold Sm; omega
  have hns : Sm 20 n := by unfold Sm; omega
  exact (rowsM_sm hlay (has.mono (by decide)) (hns.mono (by decide)) (fun _ => hO.pt n hn i hi') hr1).mono (by decide)
theorem ok_Room_walls (T : Txt K mg) : FnOk P w K mg base (L2.CX P w) 10 T.a_Room_walls T.fd_Room_walls ["self", "bound"] (spX K (R_Room_walls T.C_Room T.C_Form T.C_BadNumber)) := by
  refine fn_x T.F_Room_walls sc_Room_walls (fun ds r h => ?_) (fun cdv A outer s H E hr => ?_)
  · obtain ⟨m, p, b, rfl, _⟩ := h
    rfl
  · have hu := hr.units
    have G_check_within : FnOk P w K mg base (L2.CX P w) 3 T.a_check_within T.fd_check_within ["value", "least", "greatest"] (spX K (R_check_within T.C_BadNumber)) := ok_check_within T
    have G_walls_among : FnOk P w K mg base CX0 4 T.a_walls_among T.fd_walls_among ["form", "p", "pairs"] (spD K (R_walls_among T.C_Form)) := ok_walls_among T
    have G_outward_roots : FnOk P w K mg base CX0 9 T.a_outward_roots T.fd_outward_roots ["form", "p", "bound"] (spD K (R_outward_roots T.C_Form)) := ok_outward_roots T
    refine ⟨_, (pss_cons (ps_expr (pe_call G_check_within (hr.mono (by decide)) (by rfl) T.g_check_within T.F_check_within.kp T.b_check_within .nil (passes_call (takes_of rfl rfl rfl rfl) (fun _ _ _ _ h => h)) (pa_cons (pv 1) (pa_cons pe_int (pa_cons (pe_glob (v := .int (500)) (by rfl) T.c_GREATEST_BOUND ⟨_, rfl⟩) pa_nil)))))
    (pss_one (ps_ret (pe_call G_walls_among (hr.mono (by decide)) (by rfl) T.g_walls_among T.F_walls_among.kp T.b_walls_among .nil pass0 (pa_cons (pk_fld K (pv 0) rfl) (pa_cons (pk_fld K (pv 0) rfl) (pa_cons (pe_call G_outward_roots (hr.mono (by decide)) (by rfl) T.g_outward_roots T.F_outward_roots.kp T.b_outward_roots .nil pass0 (pa_cons (pk_fld K (pv 0) rfl) (pa_cons (pk_fld K (pv 0) rfl) (pa_cons (pv 1) pa_nil)))) pa_nil))))))), fun ds r h => ?_⟩
    obtain ⟨m, p, b, rfl, hr, hA, hq, hp, hl0, hl1, hO⟩ := h
    have hs : m.sm 10 := items_sm (formOk_items hA)
    show Sv K _ _ [D.t (roomT T.C_Room T.C_Form m p), D.t (.int b)] _
    by_cases hb : 0 ≤ b ∧ b ≤ 500
    · rw [if_pos hb] at hr
      obtain ⟨hO1, hO2⟩ := hO hb.1 hb.2
      have hsm := orP_sm hb.1 hb.2 hl1 hO1
      refine sv_then _ (sv_drop (x := .non) (ev_callX (eva_t (ev_var rfl) (eva_t ev_int (eva_t ev_int eva_nil))) (by exact ⟨b, 0, 500, rfl, (if_pos hb).symm, by unfold bndOk; omega⟩)) rfl) ?_
      have hf : ∀ {Γ : List D}, Γ[0]? = some (.t (roomT T.C_Room T.C_Form m p)) → Ev K (tFld K (tVar 0) "form") Γ (formT T.C_Form m) := fun h => ev_fld 0 (ns := ["form", "base"]) (ts := [formT T.C_Form m, row p]) (ev_var h) T.c_Room T.n_Room_form rfl (by decide +kernel) rfl
      have hb' : ∀ {Γ : List D}, Γ[0]? = some (.t (roomT T.C_Room T.C_Form m p)) → Ev K (tFld K (tVar 0) "base") Γ (row p) := fun h => ev_fld 1 (ns := ["form", "base"]) (ts := [formT T.C_Form m, row p]) (ev_var h) T.c_Room T.n_Room_base rfl (by decide +kernel) rfl
      refine sv_retF (xs := (wallsM m p b).map row) (evf_call (eva_t (hf rfl) (eva_t (hb' rfl) (eva_l (evl_f (evf_call (eva_t (hf rfl) (eva_t (hb' rfl) (eva_t (ev_var rfl) eva_nil))) (by exact ⟨m, p, b, rfl, rfl, hA, hq, hp, hb.1, hb.2, hl0, hl1, hO1⟩))) eva_nil))) (by exact ⟨m, p, sortP (orP m p b), rfl, rfl, hs.mono (by decide), hp.mono (by decide), fun q hq => hsm q (sortP_mem.mp hq), by rw [(sortP_perm _).length_eq]; exact hO2⟩)) hr
    · rw [if_neg hb] at hr
      exact sv_seq (fun _ => False) (sv_dropE (eve_callX (eva_t (ev_var rfl) (eva_t ev_int (eva_t ev_int eva_nil))) (by exact ⟨b, 0, 500, rfl, (if_neg hb).symm, by unfold bndOk; omega⟩)) hr) (fun _ z => z.elim)


theorem sc_Room_reach : FnScope ["self", "v", "norm", "product"] ["self", "v"] (defScope s_Room_reach) := ⟨rfl, rfl, rfl, by decide +kernel, rfl, by decide +kernel, by decide +kernel⟩
def inB (m : Mat) (p v : Row) : Bool := decide (Q m v < 0) && decide (bil m p v < 0)
def R_Room_reach (C Cf CB : Addr) : List D → Rs → Prop := fun ds r => ∃ (m : Mat) (p v : Row), ds = [.t (roomT C Cf m p), .t (row v)] ∧ r = (if inB m p v = true then .ok (.t (.int (reachM m p v))) else .er CB) ∧ m.sm 20 ∧ p.sm 1000 ∧ v.sm 1000
theorem ok_Room_reach (T : Txt K mg) : FnOk P w K mg base (L2.CX P w) 5 T.a_Room_reach T.fd_Room_reach ["self", "v"] (spX K (R_Room_reach T.C_Room T.C_Form T.C_BadRow)) := by
  refine fn_x T.F_Room_reach sc_Room_reach (fun ds r h => ?_) (fun cdv A outer s H E hr => ?_)
  · obtain ⟨m, p, v, rfl, _⟩ := h
    rfl
  · have hu := hr.units
    have G_Form_norm : FnOk P w K mg base CX0 4 T.a_Form_norm T.fd_Form_norm ["self", "v"] (spD K (R_Form_norm T.C_Form)) := ok_Form_norm T
    have G_Form_product : FnOk P w K mg base CX0 3 T.a_Form_product T.fd_Form_product ["self", "v", "w"] (spD K (R_Form_product T.C_Form)) := ok_Form_product T
    refine ⟨_, (pss_cons (ps_set (i := 2) sc_Room_reach.nd rfl (by first | exact Or.inl rfl | exact Or.inr rfl) (pe_meth (pk_fld K (pv 0) rfl) T.c_Form T.m_Form_norm G_Form_norm (hr.mono (by decide)) T.b_Form_norm .nil pass0 (pa_cons (pv 1) pa_nil)))
    (pss_cons (ps_set (i := 3) sc_Room_reach.nd rfl (by first | exact Or.inl rfl | exact Or.inr rfl) (pe_meth (pk_fld K (pv 0) rfl) T.c_Form T.m_Form_product G_Form_product (hr.mono (by decide)) T.b_Form_product .nil pass0 (pa_cons (pk_fld K (pv 0) rfl) (pa_cons (pv 1) pa_nil))))
    (pss_cons (ps_if (PW.pt (pw_or (pt_cmpR op_ge (pv 2) pe_int (nomark _)) (pw_or1 (pt_cmpR op_ge (pv 3) pe_int (nomark _))))) (pss_one (ps_raise rfl (takes_of rfl rfl rfl rfl) (pmk_own PySem.F.excBase_ValueError T.x_BadRow T.g_BadRow T.k_BadRow (raises_own T.b_BadRow T.t_BadRow) rfl))) pss_nil)
    (pss_one (ps_ret (pe_un un_neg (pe_op op_fdivX (pe_op op_sub (pe_op op_mulW (pv 3) (pv 3)) (pe_op op_mulW (pe_meth (pk_fld K (pv 0) rfl) T.c_Form T.m_Form_norm G_Form_norm (hr.mono (by decide)) T.b_Form_norm .nil pass0 (pa_cons (pk_fld K (pv 0) rfl) pa_nil)) (pv 2))) (pv 2)))))))), fun ds r h => ?_⟩
    obtain ⟨m, p, v, rfl, hr, hm, hp, hv⟩ := h
    have hq : Sm 2100 (Q m v) := (sm_dot hv (sm_image hm hv)).mono (by omega)
    have hq2 : Sm 2100 (Q m p) := (sm_dot hp (sm_image hm hp)).mono (by omega)
    have hd : Sm 2100 (bil m p v) := (sm_dot hp (sm_image hm hv)).mono (by omega)
    show Sv K _ _ [D.t (roomT T.C_Room T.C_Form m p), D.t (row v), D.no, D.no] _
    have hf : ∀ {Γ : List D}, Γ[0]? = some (.t (roomT T.C_Room T.C_Form m p)) → Ev K (tFld K (tVar 0) "form") Γ (formT T.C_Form m) := fun h => ev_fld 0 (ns := ["form", "base"]) (ts := [formT T.C_Form m, row p]) (ev_var h) T.c_Room T.n_Room_form rfl (by decide +kernel) rfl
    have hb' : ∀ {Γ : List D}, Γ[0]? = some (.t (roomT T.C_Room T.C_Form m p)) → Ev K (tFld K (tVar 0) "base") Γ (row p) := fun h => ev_fld 1 (ns := ["form", "base"]) (ts := [formT T.C_Form m, row p]) (ev_var h) T.c_Room T.n_Room_base rfl (by decide +kernel) rfl
    refine sv_then [D.t (roomT T.C_Room T.C_Form m p), D.t (row v), D.t (.int (Q m v)), D.no] (sv_set (x := .int (Q m v)) (ev_meth (ns := ["table", "determinant", "last"]) (ts := [mat m, .int (det m), .int (lastM m)]) (hf rfl) (by decide +kernel) (eva_t (ev_var rfl) eva_nil) (by walk_at "R_Form_norm")) rfl) ?_
    refine sv_then [D.t (roomT T.C_Room T.C_Form m p), D.t (row v), D.t (.int (Q m v)), D.t (.int (bil m p v))] (sv_set (x := .int (bil m p v)) (ev_meth (ns := ["table", "determinant", "last"]) (ts := [mat m, .int (det m), .int (lastM m)]) (hf rfl) (by decide +kernel) (eva_t (hb' rfl) (eva_t (ev_var rfl) eva_nil)) (by walk_at "R_Form_product")) rfl) ?_
    have eI : (decide (0 ≤ Q m v) || decide (0 ≤ bil m p v)) = !inB m p v := by
      unfold inB
      rw [Bool.not_and, show (!decide (Q m v < 0)) = decide (0 ≤ Q m v) by rw [← decide_not]; exact decide_eq_decide.2 Int.not_lt, show (!decide (bil m p v < 0)) = decide (0 ≤ bil m p v) by rw [← decide_not]; exact decide_eq_decide.2 Int.not_lt]
    cases hI : inB m p v with
    | false =>
      rw [hI, if_neg (by decide)] at hr
      refine sv_seq (fun _ => False) (sv_if (b := true) (evb_eq (evb_or2 (evb_test (ev_ge (ev_var rfl) ev_int)) (evb_test (ev_ge (ev_var rfl) ev_int))) (by rw [eI, hI]; rfl)) (fun _ => sv_raise hr) (fun z => nomatch z)) (fun _ z => z.elim)
    | true =>
      rw [hI, if_pos rfl] at hr
      refine sv_then [D.t (roomT T.C_Room T.C_Form m p), D.t (row v), D.t (.int (Q m v)), D.t (.int (bil m p v))] (sv_if (b := false) (evb_eq (evb_or2 (evb_test (ev_ge (ev_var rfl) ev_int)) (evb_test (ev_ge (ev_var rfl) ev_int))) (by rw [eI, hI]; rfl)) (fun z => nomatch z) (fun _ => sv_next rfl)) ?_
      have hz : Q m v ≠ 0 := by
        unfold inB at hI
        rw [Bool.and_eq_true, decide_eq_true_eq] at hI
        omega
      have hx : CDivX (bil m p v * bil m p v - Q m p * Q m v) (Q m v) := divxok hz hq (by decide)
      refine sv_ret (x := .int (reachM m p v)) (ev_neg (ev_fdivX (ev_sub (ev_mul (ev_var rfl) (ev_var rfl) (by walk_at "smk")) (ev_mul (ev_meth (x := .int (Q m p)) (ns := ["table", "determinant", "last"]) (ts := [mat m, .int (det m), .int (lastM m)]) (hf rfl) (by decide +kernel) (eva_t (hb' rfl) eva_nil) (by walk_at "R_Form_norm")) (ev_var rfl) (by walk_at "smk"))) (ev_var rfl) hx)) hr

theorem sc_walls_to : FnScope ["room", "depth"] ["room", "depth"] (defScope s_walls_to) := ⟨rfl, rfl, rfl, by decide +kernel, rfl, by decide +kernel, by decide +kernel⟩
def mn500 (d : Int) : Int := if 500 < d then 500 else d
/-- what is asked of a room and a depth -/
structure RoomOk (m : Mat) (p : Row) (d : Int) : Prop where
  ok : formOk m = true
  q : Q m p < 0
  ps : p.sm 50
  l0 : 0 < lastM m
  l1 : lastM m ≤ 500
  d0 : 0 ≤ d
  o : OutOk m p (mn500 d)
  len : (orP m p (mn500 d)).length < 400000
def R_walls_to (C Cf : Addr) : List D → D → Prop := fun ds r => ∃ (m : Mat) (p : Row) (d : Int), ds = [.t (roomT C Cf m p), .t (.int d)] ∧ r = .l ((wallsM m p (mn500 d)).map row) ∧ RoomOk m p d
theorem ok_walls_to (T : Txt K mg) : FnOk P w K mg base CX0 11 T.a_walls_to T.fd_walls_to ["room", "depth"] (spD K (R_walls_to T.C_Room T.C_Form)) := by
  refine fn_d T.F_walls_to sc_walls_to (fun ds r h => ?_) (fun cdv A outer s H E hr => ?_)
  · obtain ⟨m, p, d, rfl, _⟩ := h
    rfl
  · have hu := hr.units
    have G_Room_walls : FnOk P w K mg base (L2.CX P w) 10 T.a_Room_walls T.fd_Room_walls ["self", "bound"] (spX K (R_Room_walls T.C_Room T.C_Form T.C_BadNumber)) := ok_Room_walls T
    refine ⟨_, (pss_one (ps_ret (pe_meth (pv 0) T.c_Room T.m_Room_walls G_Room_walls (hr.mono (by decide)) T.b_Room_walls .nil passL (pa_cons (pe_callB (call_min2 rfl) (by rfl) T.z_min (by decide +kernel) (pa_cons (pv 1) (pa_cons (pe_glob (v := .int (500)) (by rfl) T.c_GREATEST_BOUND ⟨_, rfl⟩) pa_nil))) pa_nil)))), fun ds r h => ?_⟩
    obtain ⟨m, p, d, rfl, rfl, hO⟩ := h
    have h0 : 0 ≤ mn500 d ∧ mn500 d ≤ 500 := by
      have := hO.d0
      unfold mn500
      split <;> omega
    show Sv K W0 _ [D.t (roomT T.C_Room T.C_Form m p), D.t (.int d)] _
    exact sv_retF (evf_methX (ns := ["form", "base"]) (ts := [formT T.C_Form m, row p]) (ev_var rfl) (by decide +kernel) (eva_t (ev_min2 (ev_var rfl) ev_int) eva_nil) (by exact ⟨m, p, mn500 d, rfl, (if_pos h0).symm, hO.ok, hO.q, hO.ps, hO.l0, hO.l1, fun _ _ => ⟨hO.o, hO.len⟩⟩)) rfl


theorem sc_meeting : FnScope ["form", "r", "s", "product"] ["form", "r", "s"] (defScope s_meeting) := ⟨rfl, rfl, rfl, by decide +kernel, rfl, by decide +kernel, by decide +kernel⟩
def R_meeting (C : Addr) : List D → D → Prop := fun ds r => ∃ (m : Mat) (u v : Row), ds = [.t (formT C m), .t (row u), .t (row v)] ∧ r = .t (turnT (turnC m u v)) ∧ m.sm 20 ∧ u.sm 1000 ∧ v.sm 1000 ∧ 0 < Q m u ∧ 0 < Q m v
theorem ok_meeting (T : Txt K mg) : FnOk P w K mg base CX0 5 T.a_meeting T.fd_meeting ["form", "r", "s"] (spD K (R_meeting T.C_Form)) := by
  refine fn_d T.F_meeting sc_meeting (fun ds r h => ?_) (fun cdv A outer s H E hr => ?_)
  · obtain ⟨m, u, v, rfl, _⟩ := h
    rfl
  · have hu := hr.units
    have G_Form_product : FnOk P w K mg base CX0 3 T.a_Form_product T.fd_Form_product ["self", "v", "w"] (spD K (R_Form_product T.C_Form)) := ok_Form_product T
    have G_Form_norm : FnOk P w K mg base CX0 4 T.a_Form_norm T.fd_Form_norm ["self", "v"] (spD K (R_Form_norm T.C_Form)) := ok_Form_norm T
    refine ⟨_, (pss_cons (ps_set (i := 3) sc_meeting.nd rfl (by first | exact Or.inl rfl | exact Or.inr rfl) (pe_meth (pv 0) T.c_Form T.m_Form_product G_Form_product (hr.mono (by decide)) T.b_Form_product .nil pass0 (pa_cons (pv 1) (pa_cons (pv 2) pa_nil))))
    (pss_one (ps_ret (pe_kget K T.d_TURNS (pe_glob (v := .ref T.a_TURNS) (by rfl) T.g_TURNS rfl) (pe_op op_fdivW (pe_op op_mulW (pe_op op_mulW pe_int (pv 3)) (pv 3)) (pe_op op_mulW (pe_meth (pv 0) T.c_Form T.m_Form_norm G_Form_norm (hr.mono (by decide)) T.b_Form_norm .nil pass0 (pa_cons (pv 1) pa_nil)) (pe_meth (pv 0) T.c_Form T.m_Form_norm G_Form_norm (hr.mono (by decide)) T.b_Form_norm .nil pass0 (pa_cons (pv 2) pa_nil)))) ⟨rfl, rfl, rfl, rfl⟩)))), fun ds r h => ?_⟩
    obtain ⟨m, u, v, rfl, rfl, hm, hu', hv, hp, hp2⟩ := h
    show Sv K W0 _ [D.t (formT T.C_Form m), D.t (row u), D.t (row v), D.no] _
    have hq : Sm 4100 (Q m u) := (sm_dot hu' (sm_image hm hu')).mono (by omega)
    have hq2 : Sm 4100 (Q m v) := (sm_dot hv (sm_image hm hv)).mono (by omega)
    have hd : Sm 4100 (bil m u v) := (sm_dot hu' (sm_image hm hv)).mono (by omega)
    have hpp : 0 < Q m u * Q m v := Int.mul_pos hp hp2
    refine sv_then [D.t (formT T.C_Form m), D.t (row u), D.t (row v), D.t (.int (bil m u v))] (sv_set (x := .int (bil m u v)) (ev_meth (ns := ["table", "determinant", "last"]) (ts := [mat m, .int (det m), .int (lastM m)]) (ev_var rfl) (by decide +kernel) (eva_t (ev_var rfl) (eva_t (ev_var rfl) eva_nil)) (by walk_at "R_Form_product")) rfl) ?_
    exact sv_ret (x := turnT (turnC m u v)) (ev_kget (k := turnC m u v) (ev_fdivW (ev_mul (ev_mul ev_int (ev_var rfl) (by walk_at "smk")) (ev_var rfl) (by walk_at "smk")) (ev_mul (ev_meth (x := .int (Q m u)) (ns := ["table", "determinant", "last"]) (ts := [mat m, .int (det m), .int (lastM m)]) (ev_var rfl) (by decide +kernel) (eva_t (ev_var rfl) eva_nil) (by walk_at "R_Form_norm")) (ev_meth (x := .int (Q m v)) (ns := ["table", "determinant", "last"]) (ts := [mat m, .int (det m), .int (lastM m)]) (ev_var rfl) (by decide +kernel) (eva_t (ev_var rfl) eva_nil) (by walk_at "R_Form_norm")) (by walk_at "smk")) (by walk_at "divk"))) rfl
local macro_rules | `(tactic| walk_at "R_meeting") => `(tactic| exact ⟨_, _, _, rfl, rfl, by walk_at "sm", by walk_at "sm", by walk_at "sm", by assumption, by assumption⟩)
theorem sc_neighbours_of : FnScope ["form", "walls", "r", "s"] ["form", "walls", "r"] (defScope s_neighbours_of) := ⟨rfl, rfl, rfl, by decide +kernel, rfl, by decide +kernel, by decide +kernel⟩
def R_neighbours_of (C : Addr) : List D → D → Prop := fun ds r => ∃ (m : Mat) (ws : List Row) (u : Row), ds = [.t (formT C m), .l (ws.map row), .t (row u)] ∧ r = .l ((nbrM m ws u).map row) ∧ m.sm 20 ∧ u.sm 1000 ∧ 0 < Q m u ∧ (∀ w ∈ ws, w.sm 1000 ∧ 0 < Q m w) ∧ ws.length < 1000000
theorem ok_neighbours_of (T : Txt K mg) : FnOk P w K mg base CX0 6 T.a_neighbours_of T.fd_neighbours_of ["form", "walls", "r"] (spD K (R_neighbours_of T.C_Form)) := by
  refine fn_d T.F_neighbours_of sc_neighbours_of (fun ds r h => ?_) (fun cdv A outer s H E hr => ?_)
  · obtain ⟨m, ws, u, rfl, _⟩ := h
    rfl
  · have hu := hr.units
    have G_meeting : FnOk P w K mg base CX0 5 T.a_meeting T.fd_meeting ["form", "r", "s"] (spD K (R_meeting T.C_Form)) := ok_meeting T
    refine ⟨_, (pss_one (ps_ret (pe_lc (own := [("s", 3)]) (g := (gName 3)) rfl sc_neighbours_of.nd (pki_list K (pv 1)) (blkOk_by (own := [("s", 3)]) (N := ["form", "walls", "r", "s"]) (sc := defScope s_neighbours_of) (by decide +kernel)) (fun _ _ _ _ _ => (pg_name (i := 3) sc_neighbours_of.nd rfl (by first | exact Or.inl rfl | exact Or.inr rfl))) (fun _ _ _ _ _ => (pts_one (PW.pt (pw_and (pt_cmpR (opk_neD K hu) (pv 3) (pv 2) (nomark _)) (pw_and1 (pt_cmpR op_notN (pe_call G_meeting (hr.mono (by decide)) (by rfl) T.g_meeting T.F_meeting.kp T.b_meeting .nil pass0 (pa_cons (pv 0) (pa_cons (pv 2) (pa_cons (pv 3) pa_nil)))) pe_non (nomark _))))))) (fun _ _ _ _ _ => (pv 3))))), fun ds r h => ?_⟩
    obtain ⟨m, ws, u, rfl, rfl, hm, hu', hq, hws, hl⟩ := h
    show Sv K W0 _ [D.t (formT T.C_Form m), D.l (ws.map row), D.t (row u), D.no] _
    refine sv_retF (evf_lcRow (rs := ws) (nbrB m u) row (evl_v (by rfl)) hl (fun w hw => ⟨?_, fun _ => ev_var rfl⟩)) rfl
    obtain ⟨h1, h2⟩ := hws w hw
    exact evb_and2 (evb_test (ev_neR (ev_var rfl) (ev_var rfl))) (evb_val (ev_notN (ev_call (x := turnT (turnC m u w)) (eva_t (ev_var rfl) (eva_t (ev_var rfl) (eva_t (ev_var rfl) eva_nil))) (by exact ⟨m, u, w, rfl, rfl, hm, hu', h1, hq, h2⟩))))
theorem sc_way_round : FnScope ["near", "start", "way", "before", "here", "first", "second"] ["near", "start"] (defScope s_way_round) := ⟨rfl, rfl, rfl, by decide +kernel, rfl, by decide +kernel, by decide +kernel⟩
def R_way_round : List (Row × XV) → List D → D → Prop := fun mm ds r => ∃ (f : Row → List Row) (nb : Row → Row × Row) (ws : List Row) (start : Row) (n : Nat) (way : List Row), mm = nearM f ws ∧ ds = [.t (row start)] ∧ r = .l (way.map row) ∧ start ∈ ws ∧ (∀ w ∈ ws, f w = [(nb w).1, (nb w).2] ∧ (nb w).1 ∈ ws ∧ (nb w).2 ∈ ws) ∧ wayF nb start n start (nb start).1 [start] = some way ∧ n < 900000
theorem ok_way_round (T : Txt K mg) : FnOk P w K mg base CX0 1 T.a_way_round T.fd_way_round ["near", "start"] (spN P w K R_way_round) := by
  refine fn_n T.F_way_round sc_way_round (fun mm ds r h => ?_) (fun cdv A outer s H E hr => ?_)
  · obtain ⟨f, nb, ws, start, n, way, _, rfl, _⟩ := h
    rfl
  · have hu := hr.units
    refine ⟨_, (pss_cons (ps_set (i := 2) sc_way_round.nd rfl (by first | exact Or.inl rfl | exact Or.inr rfl) (pe_lst (pa_cons (pv 1) pa_nil)))
    (pss_cons (ps_par (i := 3) (j := 4) (by rfl) sc_way_round.nd rfl rfl (by decide) rfl rfl (pa_cons (pv 1) (pa_cons (pk_ixL K (pe_xgetK P w K hu (pv 0) (pv 1) (fun _ _ => rfl)) pe_int (fun _ _ => rfl)) pa_nil)) (by rfl))
    (pss_cons (ps_while PassesOwn.never (pt_cmpR (opk_neD K hu) (pv 4) (pv 1) (nomark _)) (pss_cons (ps_expr (pe_bm PySem.F.plainAttrs_list PySem.F.slot_list_append PySem.F.type_list_append mt_append (pv 2) (pa_cons (pv 4) pa_nil)))
    (pss_cons (ps_asg (pe_xgetK P w K hu (pv 0) (pv 4) (fun _ _ => rfl)) (pgk_lst K rfl (pgs_cons (pg_name (i := 5) sc_way_round.nd rfl (by first | exact Or.inl rfl | exact Or.inr rfl)) (pgs_cons (pg_name (i := 6) sc_way_round.nd rfl (by first | exact Or.inl rfl | exact Or.inr rfl)) pgs_nil))))
    (pss_one (ps_par (i := 3) (j := 4) (by rfl) sc_way_round.nd rfl rfl (by decide) rfl rfl (pa_cons (pv 4) (pa_cons (pe_ifExp (pt_cmpR (opk_eqD K hu) (pv 5) (pv 3) (nomark _)) (pv 6) (pv 5)) pa_nil)) (by rfl))))))
    (pss_one (ps_ret (pv 2)))))), fun a mm ds r h => ?_⟩
    obtain ⟨f, nb, ws, start, n, way, rfl, rfl, rfl, hst, hnb, hway, hn⟩ := h
    show SvX P w K false _ [D.rf a, D.t (row start), D.no, D.no, D.no, D.no, D.no] a _ _
    have get : ∀ {r : Row}, r ∈ ws → getM (nearM f ws) r = some (.ls [row (nb r).1, row (nb r).2]) := fun {r} hr => by
      rw [near_get f hr, (hnb r hr).1]
      rfl
    refine svx_then [D.rf a, D.t (row start), D.own [row start], D.no, D.no, D.no, D.no] _ (svx_sv (sv_setF (evf_lsts (evt_cons (ev_var rfl) evt_nil) (le_ok rfl)) ⟨rfl, rfl⟩)) ?_
    refine svx_then [D.rf a, D.t (row start), D.own [row start], D.t (row start), D.t (row (nb start).1), D.no, D.no] _ (svx_par2 (ev_var rfl) (evx_ixL (y := row (nb start).1) (evx_get rfl (ev_var rfl) (get hst)) ev_int (by rfl)) ⟨rfl, rfl⟩) ?_
    refine svx_seq (fun G m' => ∃ b h d5 d6, m' = nearM f ws ∧ G = [D.rf a, D.t (row start), D.own (way.map row), b, h, d5, d6]) ?_ ?_
    · refine svx_while (fun k G m' => ∃ b h acc d5 d6, m' = nearM f ws ∧ G = [D.rf a, D.t (row start), D.own (acc.map row), D.t (row b), D.t (row h), d5, d6] ∧ h ∈ ws ∧ wayF nb start k b h acc = some way ∧ acc.length + k < 900002) n ⟨start, (nb start).1, [start], _, _, rfl, rfl, (hnb start hst).2.1, hway, by show 1 + n < _; omega⟩ ?_
      rintro k G m' ⟨b, h, acc, d5, d6, rfl, rfl, hh, hk, hlen⟩
      cases k with
      | zero => cases hk
      | succ k =>
        unfold wayF at hk
        refine ⟨_, evxb_ev (evb_test (ev_neR (ev_var rfl) (ev_var rfl))), fun hb => ?_, fun hb => ?_⟩
        · have z : ¬ h = start := by simpa using hb
          rw [if_neg z] at hk
          refine svx_then [D.rf a, D.t (row start), D.own ((acc ++ [h]).map row), D.t (row b), D.t (row h), d5, d6] _ (svx_sv (sv_append rfl (ev_var rfl) (by rw [List.length_map]; omega) ⟨by rw [List.map_append]; rfl, rfl⟩)) ?_
          refine svx_then [D.rf a, D.t (row start), D.own ((acc ++ [h]).map row), D.t (row b), D.t (row h), D.t (row (nb h).1), D.t (row (nb h).2)] _ (svx_asgL (evx_get rfl (ev_var rfl) (get hh)) rfl (gds_cons (gd_name 5 _) (gds_cons (gd_name 6 _) gds_nil)) ⟨rfl, rfl⟩) ?_
          refine svx_sv (sv_par2 (ev_var rfl) (ev_if (x := row (if (nb h).1 = b then (nb h).2 else (nb h).1)) (evb_test (ev_eqR (ev_var rfl) (ev_var rfl))) (fun e => by rw [if_pos (of_decide_eq_true e)]; exact ev_var rfl) (fun e => by rw [if_neg (of_decide_eq_false e)]; exact ev_var rfl)) ⟨k, Nat.lt_succ_self k, h, _, acc ++ [h], _, _, rfl, rfl, ?_, hk, by rw [List.length_append, List.length_singleton]; omega⟩)
          split
          · exact (hnb h hh).2.2
          · exact (hnb h hh).2.1
        · have z : h = start := by simpa using hb
          rw [if_pos z] at hk
          cases hk
          exact ⟨_, _, _, _, rfl, rfl⟩
    · rintro G m' ⟨b, h, d5, d6, rfl, rfl⟩
      exact svx_sv (sv_retO rfl rfl)
theorem sc_ring_of : FnScope ["form", "walls", "near", "r", "way"] ["form", "walls"] (defScope s_ring_of) := ⟨rfl, rfl, rfl, by decide +kernel, rfl, by decide +kernel, by decide +kernel⟩
def ringD : Option (List Row) → D
  | none => .t .non
  | some way => .l (way.map row)
def R_ring_of (C : Addr) : List D → D → Prop := fun ds r => ∃ (m : Mat) (ws : List Row) (o : Option (List Row)), ds = [.t (formT C m), .l (ws.map row)] ∧ r = ringD o ∧ ringM m ws = some o ∧ m.sm 20 ∧ (∀ w ∈ ws, w.sm 1000 ∧ 0 < Q m w) ∧ ws.length < 800000 ∧ ws.Nodup
theorem ok_ring_of (T : Txt K mg) : FnOk P w K mg base CX0 7 T.a_ring_of T.fd_ring_of ["form", "walls"] (spD K (R_ring_of T.C_Form)) := by
  refine fn_d T.F_ring_of sc_ring_of (fun ds r h => ?_) (fun cdv A outer s H E hr => ?_)
  · obtain ⟨m, ws, o, rfl, _⟩ := h
    rfl
  · have hu := hr.units
    have G_neighbours_of : FnOk P w K mg base CX0 6 T.a_neighbours_of T.fd_neighbours_of ["form", "walls", "r"] (spD K (R_neighbours_of T.C_Form)) := ok_neighbours_of T
    have G_way_round : FnOk P w K mg base CX0 1 T.a_way_round T.fd_way_round ["near", "start"] (spN P w K R_way_round) := ok_way_round T
    refine ⟨_, (pss_cons (ps_if (pt_cmpR op_lt (pe_callB (ck_len K) (by rfl) T.z_len PySem.boot_len (pa_cons (pv 1) pa_nil)) pe_int (nomark _)) (pss_one (ps_ret pe_non)) pss_nil)
    (pss_cons (ps_set (i := 2) sc_ring_of.nd rfl (by first | exact Or.inl rfl | exact Or.inr rfl) (pe_xnewK P w))
    (pss_cons (ps_for PassesOwn.never rfl (pki_list K (pv 1)) (pg_name (i := 3) sc_ring_of.nd rfl (by first | exact Or.inl rfl | exact Or.inr rfl)) (pss_cons (ps_asg (pe_call G_neighbours_of (hr.mono (by decide)) (by rfl) T.g_neighbours_of T.F_neighbours_of.kp T.b_neighbours_of .nil pass0 (pa_cons (pv 0) (pa_cons (pv 1) (pa_cons (pv 3) pa_nil)))) (pg_sub (pv 2) (pv 3) (set_xK P w K hu)))
    (pss_one (ps_if (pt_cmpR op_ne (pe_callB (ck_len K) (by rfl) T.z_len PySem.boot_len (pa_cons (pe_xgetK P w K hu (pv 2) (pv 3) (fun _ _ => rfl)) pa_nil)) pe_int (nomark _)) (pss_one (ps_ret pe_non)) pss_nil))))
    (pss_cons (ps_set (i := 4) sc_ring_of.nd rfl (by first | exact Or.inl rfl | exact Or.inr rfl) (pe_call G_way_round (hr.mono (by decide)) (by rfl) T.g_way_round T.F_way_round.kp T.b_way_round .nil pass0 (pa_cons (pv 2) (pa_cons (pk_ixL K (pv 1) pe_int (fun _ _ => rfl)) pa_nil))))
    (pss_one (ps_ret (pe_ifExp (pt_cmpR op_eq (pe_callB (ck_len K) (by rfl) T.z_len PySem.boot_len (pa_cons (pv 4) pa_nil)) (pe_callB (ck_len K) (by rfl) T.z_len PySem.boot_len (pa_cons (pv 1) pa_nil)) (nomark _)) (pv 4) pe_non))))))), fun ds r h => ?_⟩
    obtain ⟨m, ws, o, rfl, rfl, hro, hm, hws, hl, hnd⟩ := h
    unfold ringM at hro
    show Sv K W0 _ [D.t (formT T.C_Form m), D.l (ws.map row), D.no, D.no, D.no] _
    by_cases h3 : ws.length < 3
    · rw [if_pos h3] at hro
      cases hro
      exact sv_seq (fun _ => False) (sv_if (b := true) (evb_eq (evb_test (ev_lt (ev_lenL (evl_v (by rfl))) ev_int)) (decide_eq_true (by rw [List.length_map]; omega))) (fun _ => sv_ret ev_non rfl) (fun z => nomatch z)) (fun _ z => z.elim)
    rw [if_neg h3] at hro
    refine sv_then [D.t (formT T.C_Form m), D.l (ws.map row), D.no, D.no, D.no] (sv_if (b := false) (evb_eq (evb_test (ev_lt (ev_lenL (evl_v (by rfl))) ev_int)) (decide_eq_false (by rw [List.length_map]; omega))) (fun z => nomatch z) (fun _ => sv_next rfl)) ?_
    refine svx_new (P := P) (w := w) fun a => ?_
    show SvX P w K true _ [D.t (formT T.C_Form m), D.l (ws.map row), D.rf a, D.no, D.no] a [] _
    have look : ∀ {i : Nat} {u : Row}, ws[i]? = some u → u ∉ ws.take i := fun {i u} hi hmem => by
      obtain ⟨hlt, hget⟩ := List.getElem?_eq_some_iff.mp hi
      obtain ⟨j, hj, he⟩ := List.mem_take_iff_getElem.mp hmem
      exact (List.pairwise_iff_getElem.mp hnd) j i (by omega) hlt (by omega) (he.trans hget.symm)
    refine svx_seq (fun G mm => mm = nearM (nbrM m ws) ws ∧ (∀ u ∈ ws, (nbrM m ws u).length = 2) ∧ ∃ d3, G = [D.t (formT T.C_Form m), D.l (ws.map row), D.rf a, d3, D.no]) ?_ ?_
    · refine svx_forV (k := 1) (xs := ws.map row) (fun i G mm => mm = nearM (nbrM m ws) (ws.take i) ∧ (∀ u ∈ ws.take i, (nbrM m ws u).length = 2) ∧ ∃ d3, G = [D.t (formT T.C_Form m), D.l (ws.map row), D.rf a, d3, D.no]) rfl ⟨rfl, fun u hu => (nomatch hu), _, rfl⟩ ?_ ?_
      · rintro i x G mm hx ⟨rfl, hall, d3, rfl⟩
        rw [List.getElem?_map] at hx
        obtain ⟨u, hu1, rfl⟩ := Option.map_eq_some_iff.mp hx
        obtain ⟨hu2, hu3⟩ := hws u (List.mem_of_getElem? hu1)
        refine ⟨_, gd_name 3 _, ?_⟩
        show SvX P w K true _ [D.t (formT T.C_Form m), D.l (ws.map row), D.rf a, D.t (row u), D.no] a _ _
        have hput := near_put (nbrM m ws) (look hu1)
        have ht : ws.take (i + 1) = ws.take i ++ [u] := take_snoc hu1
        refine svx_then [D.t (formT T.C_Form m), D.l (ws.map row), D.rf a, D.t (row u), D.no] (nearM (nbrM m ws) (ws.take (i + 1))) (svx_putF rfl rfl (evf_call (eva_t (ev_var rfl) (eva_l (evl_v (by rfl)) (eva_t (ev_var rfl) eva_nil))) (by exact ⟨m, ws, u, rfl, rfl, hm, hu2, hu3, hws, by omega⟩)) (ev_var rfl) (by unfold nearM; rw [List.length_map, List.length_take]; omega) ⟨rfl, by rw [ht]; exact hput⟩) ?_
        have hg : getM (nearM (nbrM m ws) (ws.take (i + 1))) u = some (.ls ((nbrM m ws u).map row)) := near_get _ (by rw [ht]; exact List.mem_append.2 (.inr (List.mem_singleton.2 rfl)))
        refine svx_if (b := !decide (((nbrM m ws u).length : Int) = 2)) (evxb_test (evx_neI (by
          have := evx_len (evx_get (P := P) (w := w) (K := K) (a := a) (q := 2) (Γ := [D.t (formT T.C_Form m), D.l (ws.map row), D.rf a, D.t (row u), D.no]) rfl (ev_var (i := 3) rfl) hg)
          rw [List.length_map] at this
          exact this) ev_int)) (fun hb => ?_) (fun hb => ?_)
        · have z : ¬ (nbrM m ws u).length = 2 := by
            intro z
            rw [z] at hb
            cases hb
          rw [if_neg (by
            rw [List.all_eq_true]
            intro z2
            exact z (of_decide_eq_true (z2 u (List.mem_of_getElem? hu1))))] at hro
          cases hro
          exact svx_sv (sv_ret ev_non rfl)
        · have z : (nbrM m ws u).length = 2 := by
            have := hb
            simp only [Bool.not_eq_false', decide_eq_true_eq] at this
            omega
          refine svx_sv (sv_next ⟨rfl, fun v hv => ?_, _, rfl⟩)
          rw [ht, List.mem_append, List.mem_singleton] at hv
          rcases hv with hv | rfl
          · exact hall v hv
          · exact z
      · rintro G mm ⟨rfl, hall, d3, rfl⟩
        rw [List.length_map, List.take_length] at *
        exact ⟨rfl, hall, d3, rfl⟩
    rintro G mm ⟨rfl, hall, d3, rfl⟩
    rw [if_pos (by rw [List.all_eq_true]; exact fun u hu => decide_eq_true (hall u hu))] at hro
    have h0 : ws[0]? = some (ws.getD 0 ⟨0, 0, 0⟩) := by
      rw [List.getD_eq_getElem?_getD, List.getElem?_eq_getElem (show 0 < ws.length by omega)]
      rfl
    have hmem := List.mem_of_getElem? h0
    generalize ws.getD 0 ⟨0, 0, 0⟩ = st at *
    obtain ⟨way, hway, ho⟩ := Option.map_eq_some_iff.mp hro
    have hat : L2.atI (ws.map row) 0 = some (row st) := by
      unfold L2.atI
      rw [List.length_map]
      have e : ixN ws.length 0 = some 0 := by
        unfold ixN
        rw [if_pos (by omega), if_pos (by omega)]
        rfl
      rw [e]
      show (ws.map row)[0]? = _
      rw [List.getElem?_map, h0]
      rfl
    refine svx_then [D.t (formT T.C_Form m), D.l (ws.map row), D.rf a, d3, D.own (way.map row)] _ (svx_setN rfl (evx_ev (ev_ixL (t := row st) (evl_v (by rfl)) ev_int hat)) (by exact ⟨nbrM m ws, nbP m ws, ws, st, ws.length + 1, way, rfl, rfl, rfl, hmem, fun u hu => ⟨nbr_two (hall u hu), nbr_mem (hall u hu)⟩, hway, by omega⟩) ⟨rfl, rfl⟩) ?_
    refine svx_sv (sv_retIf (b := decide (way.length = ws.length)) (evb_eq (evb_test (ev_eqI (ev_lenL (evl_v (by rfl))) (ev_lenL (evl_v (by rfl))))) (by rw [List.length_map, List.length_map]; exact decide_eq_decide.2 ⟨fun h => by omega, fun h => by omega⟩)) (fun hb => ?_) (fun hb => ?_))
    · rw [if_pos (of_decide_eq_true hb)] at ho
      cases ho
      exact sv_retO rfl rfl
    · rw [if_neg (of_decide_eq_false hb)] at ho
      cases ho
      exact sv_ret ev_non rfl


theorem sc_makes_ring : FnScope ["form", "walls"] ["form", "walls"] (defScope s_makes_ring) := ⟨rfl, rfl, rfl, by decide +kernel, rfl, by decide +kernel, by decide +kernel⟩
def R_makes_ring (C : Addr) : List D → D → Prop := fun ds r => ∃ (m : Mat) (ws : List Row) (o : Option (List Row)), ds = [.t (formT C m), .l (ws.map row)] ∧ r = .t (.bl o.isSome) ∧ ringM m ws = some o ∧ m.sm 20 ∧ (∀ w ∈ ws, w.sm 1000 ∧ 0 < Q m w) ∧ ws.length < 800000 ∧ ws.Nodup
theorem ok_makes_ring (T : Txt K mg) : FnOk P w K mg base CX0 8 T.a_makes_ring T.fd_makes_ring ["form", "walls"] (spD K (R_makes_ring T.C_Form)) := by
  refine fn_d T.F_makes_ring sc_makes_ring (fun ds r h => ?_) (fun cdv A outer s H E hr => ?_)
  · obtain ⟨m, ws, o, rfl, _⟩ := h
    rfl
  · have hu := hr.units
    have G_ring_of : FnOk P w K mg base CX0 7 T.a_ring_of T.fd_ring_of ["form", "walls"] (spD K (R_ring_of T.C_Form)) := ok_ring_of T
    refine ⟨_, (pss_one (ps_ret (pe_cmpR op_notN (pe_call G_ring_of (hr.mono (by decide)) (by rfl) T.g_ring_of T.F_ring_of.kp T.b_ring_of .nil pass0 (pa_cons (pv 0) (pa_cons (pv 1) pa_nil))) pe_non (nomark _)))), fun ds r h => ?_⟩
    obtain ⟨m, ws, o, rfl, rfl, hro, hm, hws, hl, hnd⟩ := h
    show Sv K W0 _ [D.t (formT T.C_Form m), D.l (ws.map row)] _
    cases o with
    | none => exact sv_ret (ev_eq (ev_notN (x := .non) (ev_call (eva_t (ev_var rfl) (eva_l (evl_v (by rfl)) eva_nil)) (by exact ⟨m, ws, none, rfl, rfl, hro, hm, hws, hl, hnd⟩))) rfl) rfl
    | some way => exact sv_ret (ev_notNL (evl_f (evf_call (xs := way.map row) (eva_t (ev_var rfl) (eva_l (evl_v (by rfl)) eva_nil)) (by exact ⟨m, ws, some way, rfl, rfl, hro, hm, hws, hl, hnd⟩)))) rfl
theorem sc_check_depth : FnScope ["form", "walls", "depth"] ["form", "walls", "depth"] (defScope s_check_depth) := ⟨rfl, rfl, rfl, by decide +kernel, rfl, by decide +kernel, by decide +kernel⟩
/-- what is asked of walls up to 500 -/
structure RingOk (m : Mat) (ws : List Row) (o : Option (List Row)) : Prop where
  r : ringM m ws = some o
  hw : ∀ w ∈ ws, w.sm 1000 ∧ 0 < Q m w
  len : ws.length < 800000
  nd : ws.Nodup
def R_check_depth (C CT : Addr) : List D → Rs → Prop := fun ds r => ∃ (m : Mat) (ws : List Row) (d : Int) (o : Option (List Row)), ds = [.t (formT C m), .l (ws.map row), .t (.int d)] ∧ r = (if 500 < d ∧ o = none then .er CT else .ok (.t .non)) ∧ m.sm 20 ∧ (500 < d → RingOk m ws o)
theorem ok_check_depth (T : Txt K mg) : FnOk P w K mg base (L2.CX P w) 9 T.a_check_depth T.fd_check_depth ["form", "walls", "depth"] (spX K (R_check_depth T.C_Form T.C_TooFar)) := by
  refine fn_x T.F_check_depth sc_check_depth (fun ds r h => ?_) (fun cdv A outer s H E hr => ?_)
  · obtain ⟨m, ws, d, o, rfl, _⟩ := h
    rfl
  · have hu := hr.units
    have G_makes_ring : FnOk P w K mg base CX0 8 T.a_makes_ring T.fd_makes_ring ["form", "walls"] (spD K (R_makes_ring T.C_Form)) := ok_makes_ring T
    refine ⟨_, (pss_one (ps_if (PW.pt (pw_and (pt_cmpR op_gt (pv 2) (pe_glob (v := .int (500)) (by rfl) T.c_GREATEST_BOUND ⟨_, rfl⟩) (nomark _)) (pw_and1 (pt_not (pt_val (pe_call G_makes_ring (hr.mono (by decide)) (by rfl) T.g_makes_ring T.F_makes_ring.kp T.b_makes_ring .nil pass0 (pa_cons (pv 0) (pa_cons (pv 1) pa_nil)))))))) (pss_one (ps_raise rfl (takes_of rfl rfl rfl rfl) (pmk_own PySem.F.excBase_ValueError T.x_TooFar T.g_TooFar T.k_TooFar (raises_own T.b_TooFar T.t_TooFar) rfl))) pss_nil)), fun ds r h => ?_⟩
    obtain ⟨m, ws, d, o, rfl, hr, hm, hl⟩ := h
    show Sv K _ _ [D.t (formT T.C_Form m), D.l (ws.map row), D.t (.int d)] _
    refine sv_if (b := decide (500 < d) && !o.isSome) (evb_and (evb_test (ev_gt (ev_var rfl) ev_int)) (fun h => evb_eq (evb_not (evb_val (ev_call (x := .bl o.isSome) (eva_t (ev_var rfl) (eva_l (evl_v (by rfl)) eva_nil)) (by have h5 := hl (of_decide_eq_true h); exact ⟨m, ws, o, rfl, rfl, h5.r, hm, h5.hw, h5.len, h5.nd⟩)))) (by rw [h]; rfl)) (fun h => by rw [h]; rfl)) (fun h => sv_raise ?_) (fun h => sv_next ?_)
    · show r = .er T.C_TooFar
      rw [Bool.and_eq_true, decide_eq_true_eq] at h
      rw [hr, if_pos ⟨h.1, by cases o with
        | none => rfl
        | some _ => exact absurd h.2 (by simp)⟩]
    · show r = .ok (.t .non)
      rw [hr, if_neg]
      rintro ⟨h1, rfl⟩
      rw [decide_eq_true h1] at h
      cases h


theorem sc_is_row : FnScope ["value", "item"] ["value"] (defScope s_is_row) := ⟨rfl, rfl, rfl, by decide +kernel, rfl, by decide +kernel, by decide +kernel⟩
def R_is_row : List D → D → Prop := fun ds r => ∃ (x : T), ds = [.t x] ∧ r = .t (.bl (rowB x)) ∧ tyT x ≠ none ∧ (∀ xs y, x = .tup xs → y ∈ xs → tyT y ≠ none)
theorem ok_is_row (T : Txt K mg) : FnOk P w K mg base CX0 2 T.a_is_row T.fd_is_row ["value"] (spD K R_is_row) := by
  refine fn_d T.F_is_row sc_is_row (fun ds r h => ?_) (fun cdv A outer s H E hr => ?_)
  · obtain ⟨x, rfl, _⟩ := h
    rfl
  · have hu := hr.units
    have G_is_whole : FnOk P w K mg base CX0 1 T.a_is_whole T.fd_is_whole ["value"] (spD K R_is_whole) := ok_is_whole T
    refine ⟨_, (pss_one (ps_ret (pe_and (pe_callB (ck_isi K) (by rfl) T.z_isinstance (by decide +kernel) (pa_cons (pv 0) (pa_cons (pe_bltn (v := .ty "tuple") (u := .type "tuple") (by rfl) T.z_tuple (by decide +kernel) rfl) pa_nil))) (pe_and (pe_cmpR op_eq (pe_callB (ck_len K) (by rfl) T.z_len PySem.boot_len (pa_cons (pv 0) pa_nil)) pe_int (nomark _)) (pe_one (pe_callB (ck_all K rfl) (by rfl) T.z_all (by decide +kernel) (pa_cons (pe_lc (own := [("item", 1)]) (g := (gName 1)) rfl sc_is_row.nd (pki_tup K (pv 0)) (blkOk_by (own := [("item", 1)]) (N := ["value", "item"]) (sc := defScope s_is_row) (by decide +kernel)) (fun _ _ _ _ _ => (pg_name (i := 1) sc_is_row.nd rfl (by first | exact Or.inl rfl | exact Or.inr rfl))) (fun _ _ _ _ _ => pts_nil) (fun _ _ _ _ _ => (pe_call G_is_whole (hr.mono (by decide)) (by rfl) T.g_is_whole T.F_is_whole.kp T.b_is_whole .nil pass0 (pa_cons (pv 1) pa_nil)))) pa_nil))))))), fun ds r h => ?_⟩
    obtain ⟨x, rfl, rfl, hx, hi⟩ := h
    show Sv K W0 _ [D.t x, D.no] _
    have no : ∀ (te ta : TE), Ev K te [D.t x, D.no] (.bl false) → rowB x = false → Sv K W0 (tRet (tAndV te ta)) [D.t x, D.no] (toRet (.t (.bl (rowB x)))) := fun te ta h hB => by
      rw [hB]
      exact sv_ret (ev_andV (b := false) h (fun z => nomatch z) (fun _ => rfl)) rfl
    cases x with
    | int i => exact no _ _ (ev_isT (b := false) (ev_var rfl) rfl (by decide +kernel)) rfl
    | bl b => exact no _ _ (ev_isT (b := false) (ev_var rfl) rfl (by decide +kernel)) rfl
    | non => exact no _ _ (ev_isT (b := false) (ev_var rfl) rfl (by decide +kernel)) rfl
    | str z => exact no _ _ (ev_isT (b := false) (ev_var rfl) rfl (by decide +kernel)) rfl
    | obj _ _ _ => exact absurd rfl hx
    | tup xs =>
      refine sv_ret (ev_andV (a := true) (ev_isT (b := true) (ev_var rfl) rfl (by decide +kernel)) (fun _ => ev_andV (a := decide ((xs.length : Int) = 3)) (b := decide ((xs.length : Int) = 3) && xs.all wholeB) (ev_eqI (ev_lenT (ev_var rfl)) ev_int) (fun h3 => ?_) (fun h3 => by rw [h3]; rfl)) (fun z => nomatch z)) rfl
      have h3' : (xs.length : Int) = 3 := of_decide_eq_true h3
      have e : (decide ((xs.length : Int) = 3) && xs.all wholeB) = (xs.map wholeB).all id := by
        rw [h3, Bool.true_and, List.all_map]
        rfl
      rw [e]
      refine ev_all (xs.map wholeB) (evl_f (evf_eq (evf_lcT (ys := xs.map fun y => .bl (wholeB y)) (ev_var rfl) (by rw [List.length_map]) (by omega) fun j x y hx hy => ?_) (by rw [List.map_map]; rfl)))
      rw [List.getElem?_map, hx] at hy
      cases hy
      exact ev_call (eva_t (ev_var rfl) eva_nil) (by exact ⟨_, rfl, rfl, hi _ _ rfl (List.mem_of_getElem? hx)⟩)
theorem sc_is_root : FnScope ["form", "value", "norm", "item"] ["form", "value"] (defScope s_is_root) := ⟨rfl, rfl, rfl, by decide +kernel, rfl, by decide +kernel, by decide +kernel⟩
structure OkY (x : T) : Prop extends OkX x where
  it : ∀ xs y, x = .tup xs → y ∈ xs → tyT y ≠ none
theorem oky_row {v : Row} (h : v.sm 1000) : OkY (row v) := ⟨okx_row h, fun xs y e hy => by
  cases e
  simp only [List.mem_cons, List.not_mem_nil, or_false] at hy
  rcases hy with rfl | rfl | rfl <;> exact (fun z => nomatch z)⟩
def R_is_root (C : Addr) : List D → D → Prop := fun ds r => ∃ (m : Mat) (x : T), ds = [.t (formT C m), .t x] ∧ r = .t (.bl (rtT m x)) ∧ m.sm 20 ∧ OkY x
theorem ok_is_root (T : Txt K mg) : FnOk P w K mg base CX0 5 T.a_is_root T.fd_is_root ["form", "value"] (spD K (R_is_root T.C_Form)) := by
  refine fn_d T.F_is_root sc_is_root (fun ds r h => ?_) (fun cdv A outer s H E hr => ?_)
  · obtain ⟨m, x, rfl, _⟩ := h
    rfl
  · have hu := hr.units
    have G_is_bare : FnOk P w K mg base CX0 1 T.a_is_bare T.fd_is_bare ["row"] (spD K R_is_bare) := ok_is_bare T
    have G_is_row : FnOk P w K mg base CX0 2 T.a_is_row T.fd_is_row ["value"] (spD K R_is_row) := ok_is_row T
    have G_Form_norm : FnOk P w K mg base CX0 4 T.a_Form_norm T.fd_Form_norm ["self", "v"] (spD K (R_Form_norm T.C_Form)) := ok_Form_norm T
    have G_image : FnOk P w K mg base CX0 2 T.a_image T.fd_image ["matrix", "row"] (spD K R_image) := ok_image T
    refine ⟨_, (pss_cons (ps_if (PW.pt (pw_or (pt_not (pt_val (pe_call G_is_row (hr.mono (by decide)) (by rfl) T.g_is_row T.F_is_row.kp T.b_is_row .nil pass0 (pa_cons (pv 1) pa_nil)))) (pw_or1 (pt_not (pt_val (pe_call G_is_bare (hr.mono (by decide)) (by rfl) T.g_is_bare T.F_is_bare.kp T.b_is_bare .nil pass0 (pa_cons (pv 1) pa_nil))))))) (pss_one (ps_ret pe_bl)) pss_nil)
    (pss_cons (ps_set (i := 2) sc_is_root.nd rfl (by first | exact Or.inl rfl | exact Or.inr rfl) (pe_meth (pv 0) T.c_Form T.m_Form_norm G_Form_norm (hr.mono (by decide)) T.b_Form_norm .nil pass0 (pa_cons (pv 1) pa_nil)))
    (pss_one (ps_ret (pe_and (pe_cmpR op_gt (pv 2) pe_int (nomark _)) (pe_one (pe_callB (ck_all K rfl) (by rfl) T.z_all (by decide +kernel) (pa_cons (pe_lc (own := [("item", 3)]) (g := (gName 3)) rfl sc_is_root.nd (pki_tup K (pe_call G_image (hr.mono (by decide)) (by rfl) T.g_image T.F_image.kp T.b_image .nil pass0 (pa_cons (pk_fld K (pv 0) rfl) (pa_cons (pv 1) pa_nil)))) (blkOk_by (own := [("item", 3)]) (N := ["form", "value", "norm", "item"]) (sc := defScope s_is_root) (by decide +kernel)) (fun _ _ _ _ _ => (pg_name (i := 3) sc_is_root.nd rfl (by first | exact Or.inl rfl | exact Or.inr rfl))) (fun _ _ _ _ _ => pts_nil) (fun _ _ _ _ _ => (pe_cmpR op_eq (pe_op op_mod (pe_op op_mulW pe_int (pv 3)) (pv 2)) pe_int (nomark _)))) pa_nil)))))))), fun ds r h => ?_⟩
    obtain ⟨m, x, rfl, rfl, hm, hx⟩ := h
    show Sv K W0 _ [D.t (formT T.C_Form m), D.t x, D.no, D.no] _
    have hrow : Ev K (tCall (spD K R_is_row) [] _ (tCons (tVar 1) tNil)) [D.t (formT T.C_Form m), D.t x, D.no, D.no] (.bl (rowB x)) := ev_call (E := fun _ _ _ => False) (eva_t (ev_var rfl) eva_nil) (by exact ⟨_, rfl, rfl, hx.ty, hx.it⟩)
    cases hB : rowB x with
    | false =>
      rw [hB] at hrow
      rw [rtT_not hB]
      refine sv_seq (fun _ => False) (sv_if (b := true) (evb_or (a := true) (evb_not (a := false) (evb_val (ev_call (eva_t (ev_var rfl) eva_nil) (by exact ⟨_, rfl, by rw [hB], hx.ty, hx.it⟩)))) (fun z => nomatch z) (fun _ => rfl)) (fun _ => sv_ret ev_bl rfl) (fun z => nomatch z)) (fun _ z => z.elim)
    | true =>
      obtain ⟨v, rfl⟩ := rowB_row hB
      have hv : v.sm 1000 := hx.sm v rfl
      have e : rtT m (row v) = (decide ((bareN v : Int) = 1) && (decide (0 < Q m v) && (rootB m v).all id)) := rfl
      rw [e]
      refine sv_seq (fun G => G = [D.t (formT T.C_Form m), D.t (row v), D.no, D.no] ∧ (bareN v : Int) = 1) (sv_if (b := !decide ((bareN v : Int) = 1)) (evb_or (a := false) (evb_not (a := true) (evb_val (ev_call (eva_t (ev_var rfl) eva_nil) (by exact ⟨_, rfl, by rw [hB], hx.ty, hx.it⟩)))) (fun _ => evb_not (evb_val (ev_call (eva_t (ev_var rfl) eva_nil) (by walk_at "R_is_bare")))) (fun z => nomatch z)) (fun h => sv_ret ev_bl ?_) (fun h => sv_next ⟨rfl, ?_⟩)) ?_
      · have h' : ¬ (bareN v : Int) = 1 := by simpa using h
        rw [decide_eq_false h']
        rfl
      · simpa using h
      rintro G ⟨rfl, hb⟩
      rw [decide_eq_true hb, Bool.true_and]
      clear hb e hrow hB
      refine sv_then _ (sv_set (ev_meth (ns := ["table", "determinant", "last"]) (ts := [mat m, .int (det m), .int (lastM m)]) (ev_var rfl) (by decide +kernel) (eva_t (ev_var rfl) eva_nil) (by walk_at "R_Form_norm")) rfl) ?_
      show Sv K W0 _ [D.t (formT T.C_Form m), D.t (row v), D.t (.int (Q m v)), D.no] _
      have hq : Sm 4100 (Q m v) := (sm_dot hv (sm_image hm hv)).mono (by omega)
      refine sv_ret (ev_andV (a := decide (0 < Q m v)) (b := decide (0 < Q m v) && (rootB m v).all id) (ev_gt (ev_var rfl) ev_int) (fun h => ?_) (fun h => by rw [h]; rfl)) rfl
      have hp : 0 < Q m v := of_decide_eq_true h
      rw [h, Bool.true_and]
      have er : (rootB m v).map Cz.T.bl = [.bl (decide (2 * (image m v).x % Q m v = 0)), .bl (decide (2 * (image m v).y % Q m v = 0)), .bl (decide (2 * (image m v).z % Q m v = 0))] := rfl
      generalize Q m v = q at *
      refine ev_all (rootB m v) (evl_f (evf_eq (evf_lcT3 (x1 := .int (image m v).x) (x2 := .int (image m v).y) (x3 := .int (image m v).z) (ev_call (eva_t (ev_fld 0 (ev_var rfl) T.c_Form T.n_Form_table rfl (by decide +kernel) rfl) (eva_t (ev_var rfl) eva_nil)) (by walk_at "R_image"))
        (ev_eqI (ev_mod (ev_mul ev_int (ev_var rfl) (by walk_at "smk")) (ev_var rfl) hp) ev_int) (ev_eqI (ev_mod (ev_mul ev_int (ev_var rfl) (by walk_at "smk")) (ev_var rfl) hp) ev_int) (ev_eqI (ev_mod (ev_mul ev_int (ev_var rfl) (by walk_at "smk")) (ev_var rfl) hp) ev_int)) er.symm))
local macro_rules | `(tactic| walk_at "R_is_root") => `(tactic| exact ⟨_, _, rfl, rfl, by walk_at "sm", by first | assumption | exact Kx.oky_row (by walk_at "sm")⟩)

theorem sc_is_closed : FnScope ["room", "bound"] ["room", "bound"] (defScope s_is_closed) := ⟨rfl, rfl, rfl, by decide +kernel, rfl, by decide +kernel, by decide +kernel⟩
def R_is_closed (C Cf : Addr) : List D → Rs → Prop := fun ds r => ∃ (m : Mat) (p : Row) (b : Int) (o : Option (List Row)), ds = [.t (roomT C Cf m p), .t (.int b)] ∧ r = .ok (.t (.bl o.isSome)) ∧ 0 ≤ b ∧ b ≤ 500 ∧ formOk m = true ∧ Q m p < 0 ∧ p.sm 50 ∧ 0 < lastM m ∧ lastM m ≤ 500 ∧ OutOk m p b ∧ (orP m p b).length < 400000 ∧ RingOk m (wallsM m p b) o
theorem ok_is_closed (T : Txt K mg) : FnOk P w K mg base (L2.CX P w) 11 T.a_is_closed T.fd_is_closed ["room", "bound"] (spX K (R_is_closed T.C_Room T.C_Form)) := by
  refine fn_x T.F_is_closed sc_is_closed (fun ds r h => ?_) (fun cdv A outer s H E hr => ?_)
  · obtain ⟨m, p, b, o, rfl, _⟩ := h
    rfl
  · have hu := hr.units
    have G_makes_ring : FnOk P w K mg base CX0 8 T.a_makes_ring T.fd_makes_ring ["form", "walls"] (spD K (R_makes_ring T.C_Form)) := ok_makes_ring T
    have G_Room_walls : FnOk P w K mg base (L2.CX P w) 10 T.a_Room_walls T.fd_Room_walls ["self", "bound"] (spX K (R_Room_walls T.C_Room T.C_Form T.C_BadNumber)) := ok_Room_walls T
    refine ⟨_, (pss_one (ps_ret (pe_call G_makes_ring (hr.mono (by decide)) (by rfl) T.g_makes_ring T.F_makes_ring.kp T.b_makes_ring .nil pass0 (pa_cons (pk_fld K (pv 0) rfl) (pa_cons (pe_meth (pv 0) T.c_Room T.m_Room_walls G_Room_walls (hr.mono (by decide)) T.b_Room_walls .nil (passes_call (takes_of rfl rfl rfl rfl) (fun _ _ _ _ h => h)) (pa_cons (pv 1) pa_nil)) pa_nil))))), fun ds r h => ?_⟩
    obtain ⟨m, p, b, o, rfl, hr, b0, b1, hA, hq, hp, hl0, hl1, hO, hln, hR⟩ := h
    have hm : m.sm 20 := (items_sm (formOk_items hA)).mono (by decide)
    show Sv K _ _ [D.t (roomT T.C_Room T.C_Form m p), D.t (.int b)] _
    exact sv_ret (x := .bl o.isSome) (ev_call (eva_t (x := formT T.C_Form m) (ev_fld 0 (ns := ["form", "base"]) (ts := [formT T.C_Form m, row p]) (ev_var rfl) T.c_Room T.n_Room_form rfl (by decide +kernel) rfl) (eva_l (evl_f (evf_methX (xs := (wallsM m p b).map row) (ns := ["form", "base"]) (ts := [formT T.C_Form m, row p]) (ev_var rfl) (by decide +kernel) (eva_t (ev_var rfl) eva_nil) (by exact ⟨m, p, b, rfl, (if_pos ⟨b0, b1⟩).symm, hA, hq, hp, hl0, hl1, fun _ _ => ⟨hO, hln⟩⟩))) eva_nil)) (by exact ⟨m, wallsM m p b, o, rfl, rfl, hR.r, hm, hR.hw, hR.len, hR.nd⟩)) hr
theorem sc_Room_holds : FnScope ["self", "v", "depth", "walls", "wall"] ["self", "v"] (defScope s_Room_holds) := ⟨rfl, rfl, rfl, by decide +kernel, rfl, by decide +kernel, by decide +kernel⟩
/-- a row whose reach is at most 500 -/
def hldB (m : Mat) (p v : Row) : Bool := !((wallsM m p (mn500 (reachM m p v))).map fun w => decide (0 < dot w (image m v))).any id
def R_Room_holds (C Cf : Addr) : List D → Rs → Prop := fun ds r => ∃ (m : Mat) (p v : Row), ds = [.t (roomT C Cf m p), .t (row v)] ∧ r = .ok (.t (.bl (hldB m p v))) ∧ m.sm 20 ∧ p.sm 1000 ∧ v.sm 1000 ∧ inB m p v = true ∧ reachM m p v ≤ 500 ∧ RoomOk m p (reachM m p v) ∧ (∀ w ∈ wallsM m p (mn500 (reachM m p v)), w.sm 1000) ∧ (wallsM m p (mn500 (reachM m p v))).length < 1000000
theorem ok_Room_holds (T : Txt K mg) : FnOk P w K mg base (L2.CX P w) 12 T.a_Room_holds T.fd_Room_holds ["self", "v"] (spX K (R_Room_holds T.C_Room T.C_Form)) := by
  refine fn_x T.F_Room_holds sc_Room_holds (fun ds r h => ?_) (fun cdv A outer s H E hr => ?_)
  · obtain ⟨m, p, v, rfl, _⟩ := h
    rfl
  · have hu := hr.units
    have G_Room_reach : FnOk P w K mg base (L2.CX P w) 5 T.a_Room_reach T.fd_Room_reach ["self", "v"] (spX K (R_Room_reach T.C_Room T.C_Form T.C_BadRow)) := ok_Room_reach T
    have G_walls_to : FnOk P w K mg base CX0 11 T.a_walls_to T.fd_walls_to ["room", "depth"] (spD K (R_walls_to T.C_Room T.C_Form)) := ok_walls_to T
    have G_Form_product : FnOk P w K mg base CX0 3 T.a_Form_product T.fd_Form_product ["self", "v", "w"] (spD K (R_Form_product T.C_Form)) := ok_Form_product T
    have G_check_depth : FnOk P w K mg base (L2.CX P w) 9 T.a_check_depth T.fd_check_depth ["form", "walls", "depth"] (spX K (R_check_depth T.C_Form T.C_TooFar)) := ok_check_depth T
    refine ⟨_, (pss_cons (ps_set (i := 2) sc_Room_holds.nd rfl (by first | exact Or.inl rfl | exact Or.inr rfl) (pe_meth (pv 0) T.c_Room T.m_Room_reach G_Room_reach (hr.mono (by decide)) T.b_Room_reach .nil (passes_call (takes_of rfl rfl rfl rfl) (fun _ _ _ _ h => h)) (pa_cons (pv 1) pa_nil)))
    (pss_cons (ps_set (i := 3) sc_Room_holds.nd rfl (by first | exact Or.inl rfl | exact Or.inr rfl) (pe_call G_walls_to (hr.mono (by decide)) (by rfl) T.g_walls_to T.F_walls_to.kp T.b_walls_to .nil pass0 (pa_cons (pv 0) (pa_cons (pv 2) pa_nil))))
    (pss_cons (ps_if (pt_val (pe_callB (ck_any K rfl) (by rfl) T.z_any (by decide +kernel) (pa_cons (pe_lc (own := [("wall", 4)]) (g := (gName 4)) rfl sc_Room_holds.nd (pki_list K (pv 3)) (blkOk_by (own := [("wall", 4)]) (N := ["self", "v", "depth", "walls", "wall"]) (sc := defScope s_Room_holds) (by decide +kernel)) (fun _ _ _ _ _ => (pg_name (i := 4) sc_Room_holds.nd rfl (by first | exact Or.inl rfl | exact Or.inr rfl))) (fun _ _ _ _ _ => pts_nil) (fun _ _ _ _ _ => (pe_cmpR op_gt (pe_meth (pk_fld K (pv 0) rfl) T.c_Form T.m_Form_product G_Form_product (hr.mono (by decide)) T.b_Form_product .nil pass0 (pa_cons (pv 4) (pa_cons (pv 1) pa_nil))) pe_int (nomark _)))) pa_nil))) (pss_one (ps_ret pe_bl)) pss_nil)
    (pss_cons (ps_expr (pe_call G_check_depth (hr.mono (by decide)) (by rfl) T.g_check_depth T.F_check_depth.kp T.b_check_depth .nil (passes_call (takes_of rfl rfl rfl rfl) (fun _ _ _ _ h => h)) (pa_cons (pk_fld K (pv 0) rfl) (pa_cons (pv 3) (pa_cons (pv 2) pa_nil)))))
    (pss_one (ps_ret pe_bl)))))), fun ds r h => ?_⟩
    obtain ⟨m, p, v, rfl, hr, hm, hp, hv, hI, h5, hR, hws, hwl⟩ := h
    unfold hldB at hr
    show Sv K _ _ [D.t (roomT T.C_Room T.C_Form m p), D.t (row v), D.no, D.no, D.no] _
    refine sv_then [D.t (roomT T.C_Room T.C_Form m p), D.t (row v), D.t (.int (reachM m p v)), D.no, D.no] (sv_set (x := .int (reachM m p v)) (ev_methX (ns := ["form", "base"]) (ts := [formT T.C_Form m, row p]) (ev_var rfl) (by decide +kernel) (eva_t (ev_var rfl) eva_nil) (by exact ⟨m, p, v, rfl, by rw [hI]; rfl, hm, hp, hv⟩)) rfl) ?_
    refine sv_then [D.t (roomT T.C_Room T.C_Form m p), D.t (row v), D.t (.int (reachM m p v)), D.own ((wallsM m p (mn500 (reachM m p v))).map row), D.no] (sv_setF (evf_call (eva_t (ev_var rfl) (eva_t (ev_var rfl) eva_nil)) (by exact ⟨m, p, _, rfl, rfl, hR⟩)) rfl) ?_
    generalize reachM m p v = d at *
    generalize wallsM m p (mn500 d) = ws at *
    cases hb : (ws.map fun w => decide (0 < dot w (image m v))).any id with
    | true =>
      rw [hb] at hr
      exact sv_seq (fun _ => False) (sv_if (b := true) (evb_eq (evb_val (ev_any (ws.map fun w => decide (0 < dot w (image m v))) (evl_f (evf_eq (evf_lcG (ws := ws) row (fun w => .bl (decide (0 < dot w (image m v)))) (evl_v (by rfl)) hwl (fun w hw => ev_gt (ev_meth (x := .int (dot w (image m v))) (ns := ["table", "determinant", "last"]) (ts := [mat m, .int (det m), .int (lastM m)]) (ev_fld 0 (ns := ["form", "base"]) (ts := [formT T.C_Form m, row p]) (ev_var rfl) T.c_Room T.n_Room_form rfl (by decide +kernel) rfl) (by decide +kernel) (eva_t (ev_var rfl) (eva_t (ev_var rfl) eva_nil)) (by have hws1 := hws w hw; walk_at "R_Form_product")) ev_int)) (by rw [List.map_map]; rfl))))) hb) (fun _ => sv_ret ev_bl hr) (fun z => nomatch z)) (fun _ z => z.elim)
    | false =>
      rw [hb] at hr
      refine sv_then [D.t (roomT T.C_Room T.C_Form m p), D.t (row v), D.t (.int d), D.own (ws.map row), D.no] (sv_if (b := false) (evb_eq (evb_val (ev_any (ws.map fun w => decide (0 < dot w (image m v))) (evl_f (evf_eq (evf_lcG (ws := ws) row (fun w => .bl (decide (0 < dot w (image m v)))) (evl_v (by rfl)) hwl (fun w hw => ev_gt (ev_meth (x := .int (dot w (image m v))) (ns := ["table", "determinant", "last"]) (ts := [mat m, .int (det m), .int (lastM m)]) (ev_fld 0 (ns := ["form", "base"]) (ts := [formT T.C_Form m, row p]) (ev_var rfl) T.c_Room T.n_Room_form rfl (by decide +kernel) rfl) (by decide +kernel) (eva_t (ev_var rfl) (eva_t (ev_var rfl) eva_nil)) (by have hws1 := hws w hw; walk_at "R_Form_product")) ev_int)) (by rw [List.map_map]; rfl))))) hb) (fun z => nomatch z) (fun _ => sv_next rfl)) ?_
      refine sv_then [D.t (roomT T.C_Room T.C_Form m p), D.t (row v), D.t (.int d), D.own (ws.map row), D.no] (sv_drop (x := .non) (ev_callX (eva_t (x := formT T.C_Form m) (ev_fld 0 (ns := ["form", "base"]) (ts := [formT T.C_Form m, row p]) (ev_var rfl) T.c_Room T.n_Room_form rfl (by decide +kernel) rfl) (eva_l (evl_v (by rfl)) (eva_t (ev_var rfl) eva_nil))) (by exact ⟨m, ws, d, none, rfl, (if_neg (fun z => absurd z.1 (by omega))).symm, hm, fun z => absurd z (by omega)⟩)) rfl) ?_
      exact sv_ret ev_bl hr


--@IMPORT ME@
--@IMPORT CzF@
--@IMPORT MZ@
def spLaw (K : PySem.W.Frag) : Sp := fun vs H Q _ => ∃ (a : Addr) (ns : List Int), vs = [.ref a] ∧ SqL K H a (ns.map V.int) ∧ ns.length ≤ 63 ∧ ∀ H', Q (.bl true) H'
theorem sc_law : FnScope ["script", "numbers", "table", "base", "matrix", "back", "columns", "form", "room", "cell", "digits", "row", "near", "norm", "product", "at", "line", "one", "two", "k"] ["script"] (defScope s_law) := ⟨rfl, rfl, rfl, by decide +kernel, rfl, by decide +kernel, by decide +kernel⟩
def R_law : List D → D → Prop := fun ds r => ∃ (ns : List Int), ds = [.l (intsT ns)] ∧ r = .t (.bl true) ∧ ns.length ≤ 63
theorem law_pre {vs : List V} {H : Hp} {Q : VK} {E : XK} (h : spLaw K vs H Q E) : spD K R_law vs H Q E := by
  obtain ⟨a, ns, rfl, hS, hl, q⟩ := h
  refine ⟨_, _, ⟨ns, rfl, rfl, hl⟩, .cons ⟨a, _, rfl, hS, Rps.ints ns⟩ .nil, fun v H' _ r => ?_⟩
  have r' : Rp K H' v (.bl true) := r
  cases r'
  exact q H'
theorem bare_col (M : Mat) (F : Mat) : (⟨⟨dot ⟨M.a.x, M.b.x, M.c.x⟩ (image F ⟨M.a.x, M.b.x, M.c.x⟩), dot ⟨M.a.x, M.b.x, M.c.x⟩ (image F ⟨M.a.y, M.b.y, M.c.y⟩), dot ⟨M.a.x, M.b.x, M.c.x⟩ (image F ⟨M.a.z, M.b.z, M.c.z⟩)⟩, ⟨dot ⟨M.a.y, M.b.y, M.c.y⟩ (image F ⟨M.a.x, M.b.x, M.c.x⟩), dot ⟨M.a.y, M.b.y, M.c.y⟩ (image F ⟨M.a.y, M.b.y, M.c.y⟩), dot ⟨M.a.y, M.b.y, M.c.y⟩ (image F ⟨M.a.z, M.b.z, M.c.z⟩)⟩, ⟨dot ⟨M.a.z, M.b.z, M.c.z⟩ (image F ⟨M.a.x, M.b.x, M.c.x⟩), dot ⟨M.a.z, M.b.z, M.c.z⟩ (image F ⟨M.a.y, M.b.y, M.c.y⟩), dot ⟨M.a.z, M.b.z, M.c.z⟩ (image F ⟨M.a.z, M.b.z, M.c.z⟩)⟩⟩ : Mat) = cong F M := by
  apply Mat.ext' <;> apply Row.ext' <;> (simp only [cong, image, mul, Mat.tr, dot]; try grind)
/-- the digits of a cell -/
theorem dig_two (cell : Int) : ∃ a b : Int, digM cell 2 900 = [a, b] := by
  have h := (digM_ok (cell := cell) (m := 900) (n := 2) (by decide)).1
  match digM cell 2 900, h with
  | [a, b], _ => exact ⟨a, b, rfl⟩
theorem dig_three (cell : Int) : ∃ a b c : Int, digM cell 3 900 = [a, b, c] := by
  have h := (digM_ok (cell := cell) (m := 900) (n := 3) (by decide)).1
  match digM cell 3 900, h with
  | [a, b, c], _ => exact ⟨a, b, c, rfl⟩
theorem dig_four (cell : Int) : ∃ a b c d : Int, digM cell 4 900 = [a, b, c, d] := by
  have h := (digM_ok (cell := cell) (m := 900) (n := 4) (by decide)).1
  match digM cell 4 900, h with
  | [a, b, c, d], _ => exact ⟨a, b, c, d, rfl⟩
theorem ok_law {fa : Addr} {fd : FuncData} (F : Fun K "law" "law" s_law fa fd) (T : Txt K mg) : FnOk P w K mg base CX0 13 fa fd ["script"] (spLaw K) := by
  refine FnOk.imp (sp := spD K R_law) ?_ (fun _ _ _ _ h => law_pre h)
  refine fn_d F sc_law (fun ds r h => ?_) (fun cdv A outer s H E hr => ?_)
  · obtain ⟨ns, rfl, _⟩ := h
    rfl
  · have hu := hr.units
    have G_law_digits : FnOk P w K mg base CX0 2 T.a_law_digits T.fd_law_digits ["cell", "count", "many"] (spD K R_law_digits) := ok_law_digits T
    have G_law_cell : FnOk P w K mg base CX0 1 T.a_law_cell T.fd_law_cell ["script", "k"] (spD K R_law_cell) := ok_law_cell T
    have G_law_moves : FnOk P w K mg base CX0 2 T.a_law_moves T.fd_law_moves ["digits"] (spD K R_law_moves) := ok_law_moves T
    have G_law_product : FnOk P w K mg base CX0 1 T.a_law_product T.fd_law_product ["table", "v", "w"] (spD K R_law_product) := ok_law_product T
    have G_law_image : FnOk P w K mg base CX0 1 T.a_law_image T.fd_law_image ["matrix", "row"] (spD K R_law_image) := ok_law_image T
    have G_Form__init_ : FnOk P w K mg base (L2.CX P w) 5 T.a_Form__init_ T.fd_Form__init_ ["self", "table"] (spI K T.C_Form (R_Form__init_ T.C_Form T.C_BadForm)) := ok_Form__init_ T
    have G_Room__init_ : FnOk P w K mg base (L2.CX P w) 6 T.a_Room__init_ T.fd_Room__init_ ["self", "form", "p"] (spI K T.C_Room (R_Room__init_ T.C_Room T.C_Form T.C_BadBase)) := ok_Room__init_ T
    have G_is_closed : FnOk P w K mg base (L2.CX P w) 11 T.a_is_closed T.fd_is_closed ["room", "bound"] (spX K (R_is_closed T.C_Room T.C_Form)) := ok_is_closed T
    have G_Room_walls : FnOk P w K mg base (L2.CX P w) 10 T.a_Room_walls T.fd_Room_walls ["self", "bound"] (spX K (R_Room_walls T.C_Room T.C_Form T.C_BadNumber)) := ok_Room_walls T
    have G_is_root : FnOk P w K mg base CX0 5 T.a_is_root T.fd_is_root ["form", "value"] (spD K (R_is_root T.C_Form)) := ok_is_root T
    have G_Room_holds : FnOk P w K mg base (L2.CX P w) 12 T.a_Room_holds T.fd_Room_holds ["self", "v"] (spX K (R_Room_holds T.C_Room T.C_Form)) := ok_Room_holds T
    have G_Room_reach : FnOk P w K mg base (L2.CX P w) 5 T.a_Room_reach T.fd_Room_reach ["self", "v"] (spX K (R_Room_reach T.C_Room T.C_Form T.C_BadRow)) := ok_Room_reach T
    refine ⟨_, (pss_cons (ps_set (i := 1) sc_law.nd rfl (by first | exact Or.inl rfl | exact Or.inr rfl) (pe_call G_law_digits (hr.mono (by decide)) (by rfl) T.g_law_digits T.F_law_digits.kp T.b_law_digits .nil pass0 (pa_cons (pe_call G_law_cell (hr.mono (by decide)) (by rfl) T.g_law_cell T.F_law_cell.kp T.b_law_cell .nil pass0 (pa_cons (pv 0) (pa_cons pe_int pa_nil))) (pa_cons pe_int (pa_cons pe_int pa_nil)))))
    (pss_cons (ps_asg (pe_tup (pa_cons (pe_tup (pa_cons (pe_tup (pa_cons pe_int (pa_cons pe_int (pa_cons (pe_un un_neg pe_int) pa_nil)))) (pa_cons (pe_tup (pa_cons pe_int (pa_cons pe_int (pa_cons pe_int pa_nil)))) (pa_cons (pe_tup (pa_cons (pe_un un_neg pe_int) (pa_cons pe_int (pa_cons (pe_un un_neg pe_int) pa_nil)))) pa_nil)))) (pa_cons (pe_tup (pa_cons pe_int (pa_cons pe_int (pa_cons pe_int pa_nil)))) pa_nil))) (pgk_tup K rfl (pgs_cons (pg_name (i := 2) sc_law.nd rfl (by first | exact Or.inl rfl | exact Or.inr rfl)) (pgs_cons (pg_name (i := 3) sc_law.nd rfl (by first | exact Or.inl rfl | exact Or.inr rfl)) pgs_nil))))
    (pss_cons (ps_asg (pe_call G_law_moves (hr.mono (by decide)) (by rfl) T.g_law_moves T.F_law_moves.kp T.b_law_moves .nil pass0 (pa_cons (pe_call G_law_digits (hr.mono (by decide)) (by rfl) T.g_law_digits T.F_law_digits.kp T.b_law_digits .nil pass0 (pa_cons (pe_call G_law_cell (hr.mono (by decide)) (by rfl) T.g_law_cell T.F_law_cell.kp T.b_law_cell .nil pass0 (pa_cons (pv 0) (pa_cons pe_int pa_nil))) (pa_cons pe_int (pa_cons pe_int pa_nil)))) pa_nil)) (pgk_tup K rfl (pgs_cons (pg_name (i := 4) sc_law.nd rfl (by first | exact Or.inl rfl | exact Or.inr rfl)) (pgs_cons (pg_name (i := 5) sc_law.nd rfl (by first | exact Or.inl rfl | exact Or.inr rfl)) pgs_nil))))
    (pss_cons (ps_set (i := 6) sc_law.nd rfl (by first | exact Or.inl rfl | exact Or.inr rfl) (pe_lc (own := [("at", 15)]) (g := (gName 15)) rfl sc_law.nd (pi_range1 (by rfl) T.z_range (pa_cons pe_int pa_nil)) (blkOk_by (own := [("at", 15)]) (N := ["script", "numbers", "table", "base", "matrix", "back", "columns", "form", "room", "cell", "digits", "row", "near", "norm", "product", "at", "line", "one", "two", "k"]) (sc := defScope s_law) (by decide +kernel)) (fun _ _ _ _ _ => (pg_name (i := 15) sc_law.nd rfl (by first | exact Or.inl rfl | exact Or.inr rfl))) (fun _ _ _ _ _ => pts_nil) (fun _ _ _ _ _ => (pk_tupleOf K (by rfl) T.z_tuple (pe_lc (own := [("line", 16)]) (g := (gName 16)) rfl sc_law.nd (pki_tup K (pv 4)) (blkOk_by (own := [("line", 16)]) (by with_unfolding_all rfl)) (fun _ _ _ _ _ => (pg_name (i := 16) sc_law.nd rfl (by first | exact Or.inl rfl | exact Or.inr rfl))) (fun _ _ _ _ _ => pts_nil) (fun _ _ _ _ _ => (pk_ixT K (pv 16) (pv 15) (fun _ _ => rfl))))))))
    (pss_cons (ps_set (i := 2) sc_law.nd rfl (by first | exact Or.inl rfl | exact Or.inr rfl) (pk_tupleOf K (by rfl) T.z_tuple (pe_lc (own := [("one", 17)]) (g := (gName 17)) rfl sc_law.nd (pki_list K (pv 6)) (blkOk_by (own := [("one", 17)]) (N := ["script", "numbers", "table", "base", "matrix", "back", "columns", "form", "room", "cell", "digits", "row", "near", "norm", "product", "at", "line", "one", "two", "k"]) (sc := defScope s_law) (by decide +kernel)) (fun _ _ _ _ _ => (pg_name (i := 17) sc_law.nd rfl (by first | exact Or.inl rfl | exact Or.inr rfl))) (fun _ _ _ _ _ => pts_nil) (fun _ _ _ _ _ => (pk_tupleOf K (by rfl) T.z_tuple (pe_lc (own := [("two", 18)]) (g := (gName 18)) rfl sc_law.nd (pki_list K (pv 6)) (blkOk_by (own := [("two", 18)]) (by with_unfolding_all rfl)) (fun _ _ _ _ _ => (pg_name (i := 18) sc_law.nd rfl (by first | exact Or.inl rfl | exact Or.inr rfl))) (fun _ _ _ _ _ => pts_nil) (fun _ _ _ _ _ => (pe_call G_law_product (hr.mono (by decide)) (by rfl) T.g_law_product T.F_law_product.kp T.b_law_product .nil pass0 (pa_cons (pv 2) (pa_cons (pv 17) (pa_cons (pv 18) pa_nil)))))))))))
    (pss_cons (ps_set (i := 3) sc_law.nd rfl (by first | exact Or.inl rfl | exact Or.inr rfl) (pe_call G_law_image (hr.mono (by decide)) (by rfl) T.g_law_image T.F_law_image.kp T.b_law_image .nil pass0 (pa_cons (pv 5) (pa_cons (pv 3) pa_nil))))
    (pss_cons (ps_set (i := 7) sc_law.nd rfl (by first | exact Or.inl rfl | exact Or.inr rfl) (pe_make T.M_Form G_Form__init_ (hr.mono (by decide)) (by rfl) T.g_Form T.b_Form__init_ .nil passL (pa_cons (pv 2) pa_nil)))
    (pss_cons (ps_set (i := 8) sc_law.nd rfl (by first | exact Or.inl rfl | exact Or.inr rfl) (pe_make T.M_Room G_Room__init_ (hr.mono (by decide)) (by rfl) T.g_Room T.b_Room__init_ .nil passL (pa_cons (pv 7) (pa_cons (pv 3) pa_nil))))
    (pss_cons (ps_if (PW.pt (pw_or (pt_cmpR (opk_neD K hu) (pe_meth (pv 8) T.c_Room T.m_Room_walls G_Room_walls (hr.mono (by decide)) T.b_Room_walls .nil passL (pa_cons (pe_op op_mod (pk_ixL K (pv 1) pe_int (fun _ _ => rfl)) pe_int) pa_nil)) (pe_lst pa_nil) (nomark _)) (pw_or1 (pt_cmpR op_isnot_bl (pe_call G_is_closed (hr.mono (by decide)) (by rfl) T.g_is_closed T.F_is_closed.kp T.b_is_closed .nil passL (pa_cons (pv 8) (pa_cons (pe_op op_mod (pk_ixL K (pv 1) pe_int (fun _ _ => rfl)) pe_int) pa_nil))) pe_bl (nomark _))))) (pss_one (ps_ret pe_bl)) pss_nil)
    (pss_cons (ps_for PassesOwn.never rfl (pki_list K (pk_slL K (pv 0) (po_some pe_int) (po_some pe_int))) (pg_name (i := 9) sc_law.nd rfl (by first | exact Or.inl rfl | exact Or.inr rfl)) (pss_cons (ps_set (i := 10) sc_law.nd rfl (by first | exact Or.inl rfl | exact Or.inr rfl) (pe_call G_law_digits (hr.mono (by decide)) (by rfl) T.g_law_digits T.F_law_digits.kp T.b_law_digits .nil pass0 (pa_cons (pv 9) (pa_cons pe_int (pa_cons pe_int pa_nil)))))
    (pss_cons (ps_set (i := 11) sc_law.nd rfl (by first | exact Or.inl rfl | exact Or.inr rfl) (pk_tupleOf K (by rfl) T.z_tuple (pe_lc (own := [("k", 19)]) (g := (gName 19)) rfl sc_law.nd (pi_range1 (by rfl) T.z_range (pa_cons pe_int pa_nil)) (blkOk_by (own := [("k", 19)]) (N := ["script", "numbers", "table", "base", "matrix", "back", "columns", "form", "room", "cell", "digits", "row", "near", "norm", "product", "at", "line", "one", "two", "k"]) (sc := defScope s_law) (by decide +kernel)) (fun _ _ _ _ _ => (pg_name (i := 19) sc_law.nd rfl (by first | exact Or.inl rfl | exact Or.inr rfl))) (fun _ _ _ _ _ => pts_nil) (fun _ _ _ _ _ => (pe_op op_sub (pe_op op_mod (pk_ixL K (pv 10) (pv 19) (fun _ _ => rfl)) pe_int) pe_int)))))
    (pss_cons (ps_if (pt_cmpR op_isnot_bl (pe_call G_is_root (hr.mono (by decide)) (by rfl) T.g_is_root T.F_is_root.kp T.b_is_root .nil pass0 (pa_cons (pv 7) (pa_cons (pv 11) pa_nil))) pe_bl (nomark _)) (pss_one (ps_ret pe_bl)) pss_nil)
    (pss_cons (ps_set (i := 12) sc_law.nd rfl (by first | exact Or.inl rfl | exact Or.inr rfl) (pk_tupleOf K (by rfl) T.z_tuple (pe_lc (own := [("k", 19)]) (g := (gName 19)) rfl sc_law.nd (pi_range1 (by rfl) T.z_range (pa_cons pe_int pa_nil)) (blkOk_by (own := [("k", 19)]) (N := ["script", "numbers", "table", "base", "matrix", "back", "columns", "form", "room", "cell", "digits", "row", "near", "norm", "product", "at", "line", "one", "two", "k"]) (sc := defScope s_law) (by decide +kernel)) (fun _ _ _ _ _ => (pg_name (i := 19) sc_law.nd rfl (by first | exact Or.inl rfl | exact Or.inr rfl))) (fun _ _ _ _ _ => pts_nil) (fun _ _ _ _ _ => (pe_op op_sub (pe_op op_add (pe_op op_mulW pe_int (pk_ixT K (pv 3) (pv 19) (fun _ _ => rfl))) (pe_op op_mod (pk_ixL K (pv 10) (pv 19) (fun _ _ => rfl)) pe_int)) pe_int)))))
    (pss_cons (ps_par (i := 13) (j := 14) (by rfl) sc_law.nd rfl rfl (by decide) rfl rfl (pa_cons (pe_call G_law_product (hr.mono (by decide)) (by rfl) T.g_law_product T.F_law_product.kp T.b_law_product .nil pass0 (pa_cons (pv 2) (pa_cons (pv 12) (pa_cons (pv 12) pa_nil)))) (pa_cons (pe_call G_law_product (hr.mono (by decide)) (by rfl) T.g_law_product T.F_law_product.kp T.b_law_product .nil pass0 (pa_cons (pv 2) (pa_cons (pv 12) (pa_cons (pv 3) pa_nil)))) pa_nil)) (by rfl))
    (pss_one (ps_if (PW.pt (pw_and (pt_cmpR op_lt (pv 13) pe_int (nomark _)) (pw_and (pt_cmpR op_lt (pv 14) pe_int (nomark _)) (pw_and (pt_cmpR op_lt (pe_meth (pv 8) T.c_Room T.m_Room_reach G_Room_reach (hr.mono (by decide)) T.b_Room_reach .nil passL (pa_cons (pv 12) pa_nil)) pe_int (nomark _)) (pw_and1 (pt_cmpR op_isnot_bl (pe_meth (pv 8) T.c_Room T.m_Room_holds G_Room_holds (hr.mono (by decide)) T.b_Room_holds .nil passL (pa_cons (pv 12) pa_nil)) pe_bl (nomark _))))))) (pss_one (ps_ret pe_bl)) pss_nil))))))))
    (pss_one (ps_ret pe_bl)))))))))))), fun ds r h => ?_⟩
    obtain ⟨ns, rfl, rfl, hns⟩ := h
    show Sv K W0 _ [D.l (intsT ns), D.no, D.no, D.no, D.no, D.no, D.no, D.no, D.no, D.no, D.no, D.no, D.no, D.no, D.no, D.no, D.no, D.no, D.no, D.no] _
    have dig : ∀ {Γ : List D} {c : Int} {n : Nat} {tc : TE} {Ex : XK}, Ev K tc Γ (.int c) → n ≤ 1000 → EvF K (tCall (spD K R_law_digits) [] Ex (tCons tc (tCons (tC (.int (n : Int))) (tCons (tC (.int 900)) tNil)))) Γ (intsT (digM c n 900)) := fun {Γ c n tc Ex} h1 h2 =>
      evf_call (eva_t h1 (eva_t ev_int (eva_t ev_int eva_nil))) (by exact ⟨c, 900, n, rfl, rfl, by decide, by decide, h2⟩)
    have cell : ∀ {Γ : List D} {k : Nat} {Ex : XK}, Γ[0]? = some (.l (intsT ns)) → Ev K (tCall (spD K R_law_cell) [] Ex (tCons (tVar 0) (tCons (tC (.int (k : Int))) tNil))) Γ (.int (celM ns k)) := fun {Γ k Ex} h0 =>
      ev_call (eva_l (evl_var h0 rfl) (eva_t ev_int eva_nil)) (by exact ⟨ns, k, rfl, rfl, hns⟩)
    obtain ⟨n0, n1, n2, n3, e4⟩ := dig_four (celM ns 0)
    obtain ⟨a, b, e2⟩ := dig_two (celM ns 1)
    refine sv_then [D.l (intsT ns), D.own (intsT [n0, n1, n2, n3]), D.no, D.no, D.no, D.no, D.no, D.no, D.no, D.no, D.no, D.no, D.no, D.no, D.no, D.no, D.no, D.no, D.no, D.no] (sv_setF (by rw [← e4]; exact dig (n := 4) (cell (k := 0) rfl) (by decide)) rfl) ?_
    refine sv_then [D.l (intsT ns), D.own (intsT [n0, n1, n2, n3]), D.t (mat bareF), D.t (row ⟨0, 0, 1⟩), D.no, D.no, D.no, D.no, D.no, D.no, D.no, D.no, D.no, D.no, D.no, D.no, D.no, D.no, D.no, D.no] (sv_asg (x := .tup [mat bareF, row ⟨0, 0, 1⟩]) (ev_tups (evt_cons (ev_mat (ev_row ev_int ev_int (ev_neg ev_int)) (ev_row ev_int ev_int ev_int) (ev_row (ev_neg ev_int) ev_int (ev_neg ev_int))) (evt_cons (ev_row ev_int ev_int ev_int) evt_nil)) (le_ok rfl)) (gd_tup rfl (gds_cons (gd_name 2 _) (gds_cons (gd_name 3 _) gds_nil))) rfl) ?_
    have hB := bareM_ok a b
    generalize hM : (movM [a, b]).1 = M at *
    generalize hBk : (movM [a, b]).2 = B at *
    refine sv_then [D.l (intsT ns), D.own (intsT [n0, n1, n2, n3]), D.t (mat bareF), D.t (row ⟨0, 0, 1⟩), D.t (mat M), D.t (mat B), D.no, D.no, D.no, D.no, D.no, D.no, D.no, D.no, D.no, D.no, D.no, D.no, D.no, D.no] (sv_asg (x := .tup [mat M, mat B]) (ev_call (eva_l (evl_f (dig (n := 2) (cell (k := 1) rfl) (by decide))) eva_nil) (by exact ⟨digM (celM ns 1) 2 900, rfl, by rw [e2, hM, hBk], by rw [e2]; show 2 ≤ 20; decide⟩)) (gd_tup rfl (gds_cons (gd_name 4 _) (gds_cons (gd_name 5 _) gds_nil))) rfl) ?_
    clear e4 e2
    have hMs := hB.ms.1
    have hBs := hB.ms.2
    have c0 : (⟨M.a.x, M.b.x, M.c.x⟩ : Row).sm 10 := ⟨hMs.a.x, hMs.b.x, hMs.c.x⟩
    have c1 : (⟨M.a.y, M.b.y, M.c.y⟩ : Row).sm 10 := ⟨hMs.a.y, hMs.b.y, hMs.c.y⟩
    have c2 : (⟨M.a.z, M.b.z, M.c.z⟩ : Row).sm 10 := ⟨hMs.a.z, hMs.b.z, hMs.c.z⟩
    refine sv_then [D.l (intsT ns), D.own (intsT [n0, n1, n2, n3]), D.t (mat bareF), D.t (row ⟨0, 0, 1⟩), D.t (mat M), D.t (mat B), D.own ([⟨M.a.x, M.b.x, M.c.x⟩, ⟨M.a.y, M.b.y, M.c.y⟩, ⟨M.a.z, M.b.z, M.c.z⟩].map row), D.no, D.no, D.no, D.no, D.no, D.no, D.no, D.no, D.no, D.no, D.no, D.no, D.no] (sv_setF (evf_lcR3 (ev_asrow (ev_tupleL (evl_f (evf_lcT3 (ev_var rfl) (ev_ixT (ev_var rfl) (ev_var rfl) (by rfl)) (ev_ixT (ev_var rfl) (ev_var rfl) (by rfl)) (ev_ixT (ev_var rfl) (ev_var rfl) (by rfl)))))) (ev_asrow (ev_tupleL (evl_f (evf_lcT3 (ev_var rfl) (ev_ixT (ev_var rfl) (ev_var rfl) (by rfl)) (ev_ixT (ev_var rfl) (ev_var rfl) (by rfl)) (ev_ixT (ev_var rfl) (ev_var rfl) (by rfl)))))) (ev_asrow (ev_tupleL (evl_f (evf_lcT3 (ev_var rfl) (ev_ixT (ev_var rfl) (ev_var rfl) (by rfl)) (ev_ixT (ev_var rfl) (ev_var rfl) (by rfl)) (ev_ixT (ev_var rfl) (ev_var rfl) (by rfl))))))) rfl) ?_
    have hbs : bareF.sm 10 := items_sm (formOk_items bareF_ok)
    have hcol := bare_col M bareF
    generalize (⟨M.a.x, M.b.x, M.c.x⟩ : Row) = u0 at *
    generalize (⟨M.a.y, M.b.y, M.c.y⟩ : Row) = u1 at *
    generalize (⟨M.a.z, M.b.z, M.c.z⟩ : Row) = u2 at *
    have hcu : ∀ u ∈ [u0, u1, u2], u.sm 10 := fun u hu => by
      simp only [List.mem_cons, List.not_mem_nil, or_false] at hu
      rcases hu with rfl | rfl | rfl <;> assumption
    have l3 : ([u0, u1, u2] : List Row).length < 1000000 := by show 3 < 1000000; decide
    refine sv_then [D.l (intsT ns), D.own (intsT [n0, n1, n2, n3]), D.t (mat (cong bareF M)), D.t (row ⟨0, 0, 1⟩), D.t (mat M), D.t (mat B), D.own ([u0, u1, u2].map row), D.no, D.no, D.no, D.no, D.no, D.no, D.no, D.no, D.no, D.no, D.no, D.no, D.no] (sv_set (x := mat (cong bareF M)) (by
      rw [← hcol]
      exact ev_asmat (ev_tupleL (evl_f (evf_lcG (ws := [u0, u1, u2]) row (fun u => row ⟨dot u (image bareF u0), dot u (image bareF u1), dot u (image bareF u2)⟩) (evl_v (by rfl)) l3 (fun u hu1 => ev_asrow (ev_tupleL (evl_f (evf_lcG (ws := [u0, u1, u2]) row (fun w => .int (dot u (image bareF w))) (evl_v (by rfl)) l3 (fun w hw1 => ev_call (eva_t (ev_var rfl) (eva_t (ev_var rfl) (eva_t (ev_var rfl) eva_nil))) (by exact ⟨bareF, u, w, 10, 10, 10, rfl, rfl, hbs, hcu u hu1, hcu w hw1, by decide, by decide, by decide⟩)))))))))) rfl) ?_
    have e3s : (⟨0, 0, 1⟩ : Row).sm 4 := ⟨by decide, by decide, by decide⟩
    have hpe := hB.pe
    refine sv_then [D.l (intsT ns), D.own (intsT [n0, n1, n2, n3]), D.t (mat (cong bareF M)), D.t (row (image B ⟨0, 0, 1⟩)), D.t (mat M), D.t (mat B), D.own ([u0, u1, u2].map row), D.no, D.no, D.no, D.no, D.no, D.no, D.no, D.no, D.no, D.no, D.no, D.no, D.no] (sv_set (ev_call (eva_t (ev_var rfl) (eva_t (ev_var rfl) eva_nil)) (by exact ⟨B, _, 10, 4, rfl, rfl, hBs, e3s, by decide, by decide⟩)) rfl) ?_
    clear hcol hpe hcu l3 c0 c1 c2
    generalize [u0, u1, u2].map row = cs at *
    generalize cong bareF M = m at *
    generalize image B ⟨0, 0, 1⟩ = p at *
    have hA := hB.ok
    have hq := hB.q
    have hs : m.sm 10 := items_sm (formOk_items hA)
    have hs20 : m.sm 20 := hs.mono (by decide)
    have hsy := formOk_sym hA
    have hps : p.sm 50 := (le5_sm hB.p5).mono (by decide)
    have hps1 : p.sm 1000 := hps.mono (by decide)
    have hl0 : 0 < lastM m := lastM_pos (by have := formOk_det hA; omega)
    have hl5 : lastM m ≤ 500 := (gen_lat2 hA hq hB.gen (Int.le_refl 0) (by decide)).1
    have hw0 : ∀ x, wallsM m p x = [] := fun x => hB.walls x
    refine sv_then [D.l (intsT ns), D.own (intsT [n0, n1, n2, n3]), D.t (mat m), D.t (row p), D.t (mat M), D.t (mat B), D.own cs, D.t (formT T.C_Form m), D.no, D.no, D.no, D.no, D.no, D.no, D.no, D.no, D.no, D.no, D.no, D.no] (sv_set (x := formT T.C_Form m) (ev_make (ns := ["table", "determinant", "last"]) (ts := [mat m, .int (det m), .int (lastM m)]) (eva_t (ev_var rfl) eva_nil) (by exact ⟨_, 20, rfl, (if_pos hA).symm, hs20, by decide⟩)) rfl) ?_
    refine sv_then [D.l (intsT ns), D.own (intsT [n0, n1, n2, n3]), D.t (mat m), D.t (row p), D.t (mat M), D.t (mat B), D.own cs, D.t (formT T.C_Form m), D.t (roomT T.C_Room T.C_Form m p), D.no, D.no, D.no, D.no, D.no, D.no, D.no, D.no, D.no, D.no, D.no] (sv_set (x := roomT T.C_Room T.C_Form m p) (ev_make (ns := ["form", "base"]) (ts := [formT T.C_Form m, row p]) (eva_t (ev_var rfl) (eva_t (ev_var rfl) eva_nil)) (by exact ⟨m, p, rfl, (if_neg (by omega)).symm, hs20, hps1⟩)) rfl) ?_
    have m41 : ∀ x : Int, 0 ≤ x % 41 ∧ x % 41 ≤ 500 := fun x => by
      have := Int.emod_nonneg x (show (41 : Int) ≠ 0 by decide)
      have := Int.emod_lt_of_pos x (show (0 : Int) < 41 by decide)
      omega
    obtain ⟨x0, x1⟩ := m41 n0
    obtain ⟨y0, y1⟩ := m41 n1
    have o0 := hB.out x0 x1
    have o1 := hB.out y0 y1
    have hring : RingOk m (wallsM m p (n1 % 41)) none := by
      rw [hw0]
      exact ⟨rfl, (fun w hw => nomatch hw), by decide, List.nodup_nil⟩
    refine sv_then [D.l (intsT ns), D.own (intsT [n0, n1, n2, n3]), D.t (mat m), D.t (row p), D.t (mat M), D.t (mat B), D.own cs, D.t (formT T.C_Form m), D.t (roomT T.C_Room T.C_Form m p), D.no, D.no, D.no, D.no, D.no, D.no, D.no, D.no, D.no, D.no, D.no] (sv_if (b := false) (evb_eq (evb_or2 (evb_test (ev_neLL (rs := []) (evl_f (evf_methX (ns := ["form", "base"]) (ts := [formT T.C_Form m, row p]) (ev_var rfl) (by decide +kernel) (eva_t (ev_mod (ev_ixL (t := .int n0) (evl_v (by rfl)) ev_int (by rfl)) ev_int (by decide)) eva_nil) (by exact ⟨m, p, n0 % 41, rfl, by rw [if_pos ⟨x0, x1⟩, hw0], hA, hq, hps, hl0, hl5, fun _ _ => o0⟩))) (evl_f (evf_lsts evt_nil (le_ok rfl))))) (evb_test (ev_isnotB (a := false) (ev_callX (eva_t (ev_var rfl) (eva_t (ev_mod (ev_ixL (t := .int n1) (evl_v (by rfl)) ev_int (by rfl)) ev_int (by decide)) eva_nil)) (by exact ⟨m, p, n1 % 41, none, rfl, rfl, y0, y1, hA, hq, hps, hl0, hl5, o1.1, o1.2, hring⟩)) ev_bl))) rfl) (fun z => nomatch z) (fun _ => sv_next rfl)) ?_
    refine sv_seq (fun G => ∃ d9 d10 d11 d12 d13 d14, G = [D.l (intsT ns), D.own (intsT [n0, n1, n2, n3]), D.t (mat m), D.t (row p), D.t (mat M), D.t (mat B), D.own cs, D.t (formT T.C_Form m), D.t (roomT T.C_Room T.C_Form m p), d9, d10, d11, d12, d13, d14, D.no, D.no, D.no, D.no, D.no]) ?_ ?_
    · refine sv_forF (xs := cutT (intsT ns) (some 2) (some 14)) (fun i G => ∃ d9 d10 d11 d12 d13 d14, G = [D.l (intsT ns), D.own (intsT [n0, n1, n2, n3]), D.t (mat m), D.t (row p), D.t (mat M), D.t (mat B), D.own cs, D.t (formT T.C_Form m), D.t (roomT T.C_Room T.C_Form m p), d9, d10, d11, d12, d13, d14, D.no, D.no, D.no, D.no, D.no]) (evf_slice (evl_v (by rfl)) (evo_some ev_int) (evo_some ev_int)) ⟨_, _, _, _, _, _, rfl⟩ ?_ (fun G h => h)
      rintro i x G hx ⟨d9, d10, d11, d12, d13, d14, rfl⟩
      obtain ⟨c, rfl⟩ : ∃ c, x = .int c := by
        have h1 := List.mem_of_getElem? hx
        unfold cutT at h1
        have h2 := List.mem_of_mem_drop (List.mem_of_mem_take h1)
        unfold intsT at h2
        obtain ⟨c, _, rfl⟩ := List.mem_map.1 h2
        exact ⟨c, rfl⟩
      refine ⟨_, gd_name 9 _, ?_⟩
      show Sv K W0 _ [D.l (intsT ns), D.own (intsT [n0, n1, n2, n3]), D.t (mat m), D.t (row p), D.t (mat M), D.t (mat B), D.own cs, D.t (formT T.C_Form m), D.t (roomT T.C_Room T.C_Form m p), D.t (.int c), d10, d11, d12, d13, d14, D.no, D.no, D.no, D.no, D.no] _
      obtain ⟨q0, q1, q2, e3⟩ := dig_three c
      refine sv_then [D.l (intsT ns), D.own (intsT [n0, n1, n2, n3]), D.t (mat m), D.t (row p), D.t (mat M), D.t (mat B), D.own cs, D.t (formT T.C_Form m), D.t (roomT T.C_Room T.C_Form m p), D.t (.int c), D.own (intsT [q0, q1, q2]), d11, d12, d13, d14, D.no, D.no, D.no, D.no, D.no] (sv_setF (by rw [← e3]; exact dig (n := 3) (ev_var rfl) (by decide)) rfl) ?_
      clear e3
      have m9 : ∀ x : Int, -4 ≤ x % 9 - 4 ∧ x % 9 - 4 ≤ 4 := fun x => by
        have := Int.emod_nonneg x (show (9 : Int) ≠ 0 by decide)
        have := Int.emod_lt_of_pos x (show (0 : Int) < 9 by decide)
        omega
      have m3 : ∀ x : Int, 0 ≤ x % 3 ∧ x % 3 ≤ 2 := fun x => by
        have := Int.emod_nonneg x (show (3 : Int) ≠ 0 by decide)
        have := Int.emod_lt_of_pos x (show (0 : Int) < 3 by decide)
        omega
      refine sv_then [D.l (intsT ns), D.own (intsT [n0, n1, n2, n3]), D.t (mat m), D.t (row p), D.t (mat M), D.t (mat B), D.own cs, D.t (formT T.C_Form m), D.t (roomT T.C_Room T.C_Form m p), D.t (.int c), D.own (intsT [q0, q1, q2]), D.t (row ⟨q0 % 9 - 4, q1 % 9 - 4, q2 % 9 - 4⟩), d12, d13, d14, D.no, D.no, D.no, D.no, D.no] (sv_set (x := row ⟨q0 % 9 - 4, q1 % 9 - 4, q2 % 9 - 4⟩) (ev_asrow (ev_tupleL (evl_f (evf_lcR3 (ev_sub (ev_mod (ev_ixL (t := .int q0) (evl_v (by rfl)) (ev_var rfl) (by rfl)) ev_int (by decide)) ev_int) (ev_sub (ev_mod (ev_ixL (t := .int q1) (evl_v (by rfl)) (ev_var rfl) (by rfl)) ev_int (by decide)) ev_int) (ev_sub (ev_mod (ev_ixL (t := .int q2) (evl_v (by rfl)) (ev_var rfl) (by rfl)) ev_int (by decide)) ev_int))))) rfl) ?_
      have hrs : (⟨q0 % 9 - 4, q1 % 9 - 4, q2 % 9 - 4⟩ : Row).sm 4 := by
        have := m9 q0
        have := m9 q1
        have := m9 q2
        exact ⟨(by unfold Sm; omega : Sm 4 (q0 % 9 - 4)), (by unfold Sm; omega : Sm 4 (q1 % 9 - 4)), (by unfold Sm; omega : Sm 4 (q2 % 9 - 4))⟩
      generalize (⟨q0 % 9 - 4, q1 % 9 - 4, q2 % 9 - 4⟩ : Row) = r at *
      have hrt : rtT m (row r) = false := by
        show rootP m r = false
        exact hB.root r
      refine sv_then [D.l (intsT ns), D.own (intsT [n0, n1, n2, n3]), D.t (mat m), D.t (row p), D.t (mat M), D.t (mat B), D.own cs, D.t (formT T.C_Form m), D.t (roomT T.C_Room T.C_Form m p), D.t (.int c), D.own (intsT [q0, q1, q2]), D.t (row r), d12, d13, d14, D.no, D.no, D.no, D.no, D.no] (sv_if (b := false) (evb_eq (evb_test (ev_isnotB (a := false) (ev_call (eva_t (ev_var rfl) (eva_t (ev_var rfl) eva_nil)) (by exact ⟨m, row r, rfl, by rw [hrt], hs20, oky_row (hrs.mono (by decide))⟩)) ev_bl)) rfl) (fun z => nomatch z) (fun _ => sv_next rfl)) ?_
      have hp3 := le5_sm hB.p5
      have three : Sm 2 3 := by unfold Sm; decide
      have ne : ∀ {x y : Int} {Γ : List D} {tx ty : TE}, Ev K tx Γ (.int x) → Ev K ty Γ (.int y) → Sm 3 x → Ev K (tOp (rI0 fun i j => .int (i - j)) (tOp (rI0 fun i j => .int (i + j)) (tOp (rI CMulW fun i j => .int (i * j)) (tC (.int 3)) tx) (tOp (rI (fun _ j => 0 < j) fun i j => .int (i % j)) ty (tC (.int 3)))) (tC (.int 1))) Γ (.int (3 * x + y % 3 - 1)) := fun h1 h2 h3 => ev_sub (ev_add (ev_mul ev_int h1 (Cz.Sm.mulok three h3 (by decide))) (ev_mod h2 ev_int (by decide))) ev_int
      refine sv_then [D.l (intsT ns), D.own (intsT [n0, n1, n2, n3]), D.t (mat m), D.t (row p), D.t (mat M), D.t (mat B), D.own cs, D.t (formT T.C_Form m), D.t (roomT T.C_Room T.C_Form m p), D.t (.int c), D.own (intsT [q0, q1, q2]), D.t (row r), D.t (row ⟨3 * p.x + q0 % 3 - 1, 3 * p.y + q1 % 3 - 1, 3 * p.z + q2 % 3 - 1⟩), d13, d14, D.no, D.no, D.no, D.no, D.no] (sv_set (x := row ⟨3 * p.x + q0 % 3 - 1, 3 * p.y + q1 % 3 - 1, 3 * p.z + q2 % 3 - 1⟩) (ev_asrow (ev_tupleL (evl_f (evf_lcR3 (ne (ev_ixT (ev_var rfl) (ev_var rfl) (by rfl)) (ev_ixL (t := .int q0) (evl_v (by rfl)) (ev_var rfl) (by rfl)) hp3.x) (ne (ev_ixT (ev_var rfl) (ev_var rfl) (by rfl)) (ev_ixL (t := .int q1) (evl_v (by rfl)) (ev_var rfl) (by rfl)) hp3.y) (ne (ev_ixT (ev_var rfl) (ev_var rfl) (by rfl)) (ev_ixL (t := .int q2) (evl_v (by rfl)) (ev_var rfl) (by rfl)) hp3.z))))) rfl) ?_
      have hvs : (⟨3 * p.x + q0 % 3 - 1, 3 * p.y + q1 % 3 - 1, 3 * p.z + q2 % 3 - 1⟩ : Row).sm 5 := by
        have := m3 q0
        have := m3 q1
        have := m3 q2
        obtain ⟨⟨a1, a2⟩, ⟨b1, b2⟩, ⟨c1, c2⟩⟩ := hB.p5
        exact ⟨(by unfold Sm; omega : Sm 5 (3 * p.x + q0 % 3 - 1)), (by unfold Sm; omega : Sm 5 (3 * p.y + q1 % 3 - 1)), (by unfold Sm; omega : Sm 5 (3 * p.z + q2 % 3 - 1))⟩
      generalize (⟨3 * p.x + q0 % 3 - 1, 3 * p.y + q1 % 3 - 1, 3 * p.z + q2 % 3 - 1⟩ : Row) = v at *
      refine sv_then [D.l (intsT ns), D.own (intsT [n0, n1, n2, n3]), D.t (mat m), D.t (row p), D.t (mat M), D.t (mat B), D.own cs, D.t (formT T.C_Form m), D.t (roomT T.C_Room T.C_Form m p), D.t (.int c), D.own (intsT [q0, q1, q2]), D.t (row r), D.t (row v), D.t (.int (Q m v)), D.t (.int (dot v (image m p))), D.no, D.no, D.no, D.no, D.no] (sv_par2 (x := .int (Q m v)) (y := .int (dot v (image m p))) (ev_call (eva_t (ev_var rfl) (eva_t (ev_var rfl) (eva_t (ev_var rfl) eva_nil))) (by walk_at "R_law_product")) (ev_call (eva_t (ev_var rfl) (eva_t (ev_var rfl) (eva_t (ev_var rfl) eva_nil))) (by walk_at "R_law_product")) rfl) ?_
      have hvs1 : v.sm 1000 := hvs.mono (by decide)
      refine sv_if (b := false) (evb_and (a := decide (Q m v < 0)) (b := false) (evb_test (ev_lt (ev_var rfl) ev_int)) (fun z1 => evb_and (a := decide (dot v (image m p) < 0)) (b := false) (evb_test (ev_lt (ev_var rfl) ev_int)) (fun z2 => ?_) (fun _ => rfl)) (fun _ => rfl)) (fun z => nomatch z) (fun _ => sv_next ⟨_, _, _, _, _, _, rfl⟩)
      have h1 := of_decide_eq_true z1
      have h2 := of_decide_eq_true z2
      have h3 : bil m p v < 0 := by
        show dot p (image m v) < 0
        rw [dot_symm hsy]
        exact h2
      have hin : inB m p v = true := by
        unfold inB
        rw [decide_eq_true h1, decide_eq_true h3]
        rfl
      refine evb_and (a := decide (reachM m p v < 40)) (b := false) (evb_test (ev_lt (ev_methX (x := .int (reachM m p v)) (ns := ["form", "base"]) (ts := [formT T.C_Form m, row p]) (ev_var rfl) (by decide +kernel) (eva_t (ev_var rfl) eva_nil) (by exact ⟨m, p, v, rfl, by rw [hin]; rfl, hs20, hps1, hvs1⟩)) ev_int)) (fun z3 => ?_) (fun _ => rfl)
      have h4 := of_decide_eq_true z3
      have r0 := reach_nn hA hq h1
      obtain ⟨b0, b1⟩ : 0 ≤ mn500 (reachM m p v) ∧ mn500 (reachM m p v) ≤ 500 := by
        unfold mn500
        split <;> omega
      have oo := hB.out b0 b1
      have hh : hldB m p v = true := by
        unfold hldB
        rw [hw0]
        rfl
      exact evb_eq (evb_test (ev_isnotB (a := true) (ev_methX (ns := ["form", "base"]) (ts := [formT T.C_Form m, row p]) (ev_var rfl) (by decide +kernel) (eva_t (ev_var rfl) eva_nil) (by exact ⟨m, p, v, rfl, by rw [hh], hs20, hps1, hvs1, hin, by omega, ⟨hA, hq, hps, hl0, hl5, r0, oo.1, oo.2⟩, by rw [hw0]; exact fun w hw => (nomatch hw), by rw [hw0]; decide⟩)) ev_bl)) rfl
    · rintro G ⟨d9, d10, d11, d12, d13, d14, rfl⟩
      exact sv_ret ev_bl rfl


end
theorem all_mk {l : PySem.W.OpenLaw} {w : World} {K : PySem.W.Frag} {h : Heap} {mg : Str → Option Value} {fa : Addr} (X : K.In h) (G : h.Ns mainGlobals mg) (hfa : mg "law" = some (.ref fa))
    {C_Form : Addr}
    {C_Layers : Addr}
    {C_Room : Addr}
    (gc_Room : PySem.W.nsIn K mainGlobals "Room" = some (some (.ref C_Room)))
    (gc_Layers : PySem.W.nsIn K mainGlobals "Layers" = some (some (.ref C_Layers)))
    (gc_Form : PySem.W.nsIn K mainGlobals "Form" = some (some (.ref C_Form)))
    {f_dot : Addr} {od_dot an_dot : Option Addr} {sl_dot : Array (Option Value)} {oc_dot kV_dot dc_dot pm_dot cd_dot ct_dot : Value}
    (a_dot : PySem.W.nsIn K mainGlobals "dot" = some (some (.ref f_dot)))
    (l_dot : K.lookup f_dot = some ⟨oc_dot, od_dot, .func (PySem.W.fnOf "dot" "dot" (defArgs s_dot) (defBody s_dot) (defScope s_dot) .none kV_dot dc_dot pm_dot an_dot cd_dot ct_dot), sl_dot⟩)
    (c_dot : PySem.W.codeIn K cd_dot "dot" = true) (k_dot : PySem.W.keepIn K (.ref f_dot) = true)
    {f_cross : Addr} {od_cross an_cross : Option Addr} {sl_cross : Array (Option Value)} {oc_cross kV_cross dc_cross pm_cross cd_cross ct_cross : Value}
    (a_cross : PySem.W.nsIn K mainGlobals "cross" = some (some (.ref f_cross)))
    (l_cross : K.lookup f_cross = some ⟨oc_cross, od_cross, .func (PySem.W.fnOf "cross" "cross" (defArgs s_cross) (defBody s_cross) (defScope s_cross) .none kV_cross dc_cross pm_cross an_cross cd_cross ct_cross), sl_cross⟩)
    (c_cross : PySem.W.codeIn K cd_cross "cross" = true) (k_cross : PySem.W.keepIn K (.ref f_cross) = true)
    {f_transposed : Addr} {od_transposed an_transposed : Option Addr} {sl_transposed : Array (Option Value)} {oc_transposed kV_transposed dc_transposed pm_transposed cd_transposed ct_transposed : Value}
    (a_transposed : PySem.W.nsIn K mainGlobals "transposed" = some (some (.ref f_transposed)))
    (l_transposed : K.lookup f_transposed = some ⟨oc_transposed, od_transposed, .func (PySem.W.fnOf "transposed" "transposed" (defArgs s_transposed) (defBody s_transposed) (defScope s_transposed) .none kV_transposed dc_transposed pm_transposed an_transposed cd_transposed ct_transposed), sl_transposed⟩)
    (c_transposed : PySem.W.codeIn K cd_transposed "transposed" = true) (k_transposed : PySem.W.keepIn K (.ref f_transposed) = true)
    {f_image : Addr} {od_image an_image : Option Addr} {sl_image : Array (Option Value)} {oc_image kV_image dc_image pm_image cd_image ct_image : Value}
    (a_image : PySem.W.nsIn K mainGlobals "image" = some (some (.ref f_image)))
    (l_image : K.lookup f_image = some ⟨oc_image, od_image, .func (PySem.W.fnOf "image" "image" (defArgs s_image) (defBody s_image) (defScope s_image) .none kV_image dc_image pm_image an_image cd_image ct_image), sl_image⟩)
    (c_image : PySem.W.codeIn K cd_image "image" = true) (k_image : PySem.W.keepIn K (.ref f_image) = true)
    {f_determinant_of : Addr} {od_determinant_of an_determinant_of : Option Addr} {sl_determinant_of : Array (Option Value)} {oc_determinant_of kV_determinant_of dc_determinant_of pm_determinant_of cd_determinant_of ct_determinant_of : Value}
    (a_determinant_of : PySem.W.nsIn K mainGlobals "determinant_of" = some (some (.ref f_determinant_of)))
    (l_determinant_of : K.lookup f_determinant_of = some ⟨oc_determinant_of, od_determinant_of, .func (PySem.W.fnOf "determinant_of" "determinant_of" (defArgs s_determinant_of) (defBody s_determinant_of) (defScope s_determinant_of) .none kV_determinant_of dc_determinant_of pm_determinant_of an_determinant_of cd_determinant_of ct_determinant_of), sl_determinant_of⟩)
    (c_determinant_of : PySem.W.codeIn K cd_determinant_of "determinant_of" = true) (k_determinant_of : PySem.W.keepIn K (.ref f_determinant_of) = true)
    {f_adjugate_of : Addr} {od_adjugate_of an_adjugate_of : Option Addr} {sl_adjugate_of : Array (Option Value)} {oc_adjugate_of kV_adjugate_of dc_adjugate_of pm_adjugate_of cd_adjugate_of ct_adjugate_of : Value}
    (a_adjugate_of : PySem.W.nsIn K mainGlobals "adjugate_of" = some (some (.ref f_adjugate_of)))
    (l_adjugate_of : K.lookup f_adjugate_of = some ⟨oc_adjugate_of, od_adjugate_of, .func (PySem.W.fnOf "adjugate_of" "adjugate_of" (defArgs s_adjugate_of) (defBody s_adjugate_of) (defScope s_adjugate_of) .none kV_adjugate_of dc_adjugate_of pm_adjugate_of an_adjugate_of cd_adjugate_of ct_adjugate_of), sl_adjugate_of⟩)
    (c_adjugate_of : PySem.W.codeIn K cd_adjugate_of "adjugate_of" = true) (k_adjugate_of : PySem.W.keepIn K (.ref f_adjugate_of) = true)
    {f_is_whole : Addr} {od_is_whole an_is_whole : Option Addr} {sl_is_whole : Array (Option Value)} {oc_is_whole kV_is_whole dc_is_whole pm_is_whole cd_is_whole ct_is_whole : Value}
    (a_is_whole : PySem.W.nsIn K mainGlobals "is_whole" = some (some (.ref f_is_whole)))
    (l_is_whole : K.lookup f_is_whole = some ⟨oc_is_whole, od_is_whole, .func (PySem.W.fnOf "is_whole" "is_whole" (defArgs s_is_whole) (defBody s_is_whole) (defScope s_is_whole) .none kV_is_whole dc_is_whole pm_is_whole an_is_whole cd_is_whole ct_is_whole), sl_is_whole⟩)
    (c_is_whole : PySem.W.codeIn K cd_is_whole "is_whole" = true) (k_is_whole : PySem.W.keepIn K (.ref f_is_whole) = true)
    {f_is_within : Addr} {od_is_within an_is_within : Option Addr} {sl_is_within : Array (Option Value)} {oc_is_within kV_is_within dc_is_within pm_is_within cd_is_within ct_is_within : Value}
    (a_is_within : PySem.W.nsIn K mainGlobals "is_within" = some (some (.ref f_is_within)))
    (l_is_within : K.lookup f_is_within = some ⟨oc_is_within, od_is_within, .func (PySem.W.fnOf "is_within" "is_within" (defArgs s_is_within) (defBody s_is_within) (defScope s_is_within) .none kV_is_within dc_is_within pm_is_within an_is_within cd_is_within ct_is_within), sl_is_within⟩)
    (c_is_within : PySem.W.codeIn K cd_is_within "is_within" = true) (k_is_within : PySem.W.keepIn K (.ref f_is_within) = true)
    {f_is_item : Addr} {od_is_item an_is_item : Option Addr} {sl_is_item : Array (Option Value)} {oc_is_item kV_is_item dc_is_item pm_is_item cd_is_item ct_is_item : Value}
    (a_is_item : PySem.W.nsIn K mainGlobals "is_item" = some (some (.ref f_is_item)))
    (l_is_item : K.lookup f_is_item = some ⟨oc_is_item, od_is_item, .func (PySem.W.fnOf "is_item" "is_item" (defArgs s_is_item) (defBody s_is_item) (defScope s_is_item) .none kV_is_item dc_is_item pm_is_item an_is_item cd_is_item ct_is_item), sl_is_item⟩)
    (c_is_item : PySem.W.codeIn K cd_is_item "is_item" = true) (k_is_item : PySem.W.keepIn K (.ref f_is_item) = true)
    {f_is_below_zero : Addr} {od_is_below_zero an_is_below_zero : Option Addr} {sl_is_below_zero : Array (Option Value)} {oc_is_below_zero kV_is_below_zero dc_is_below_zero pm_is_below_zero cd_is_below_zero ct_is_below_zero : Value}
    (a_is_below_zero : PySem.W.nsIn K mainGlobals "is_below_zero" = some (some (.ref f_is_below_zero)))
    (l_is_below_zero : K.lookup f_is_below_zero = some ⟨oc_is_below_zero, od_is_below_zero, .func (PySem.W.fnOf "is_below_zero" "is_below_zero" (defArgs s_is_below_zero) (defBody s_is_below_zero) (defScope s_is_below_zero) .none kV_is_below_zero dc_is_below_zero pm_is_below_zero an_is_below_zero cd_is_below_zero ct_is_below_zero), sl_is_below_zero⟩)
    (c_is_below_zero : PySem.W.codeIn K cd_is_below_zero "is_below_zero" = true) (k_is_below_zero : PySem.W.keepIn K (.ref f_is_below_zero) = true)
    {f_check_form : Addr} {od_check_form an_check_form : Option Addr} {sl_check_form : Array (Option Value)} {oc_check_form kV_check_form dc_check_form pm_check_form cd_check_form ct_check_form : Value}
    (a_check_form : PySem.W.nsIn K mainGlobals "check_form" = some (some (.ref f_check_form)))
    (l_check_form : K.lookup f_check_form = some ⟨oc_check_form, od_check_form, .func (PySem.W.fnOf "check_form" "check_form" (defArgs s_check_form) (defBody s_check_form) (defScope s_check_form) .none kV_check_form dc_check_form pm_check_form an_check_form cd_check_form ct_check_form), sl_check_form⟩)
    (c_check_form : PySem.W.codeIn K cd_check_form "check_form" = true) (k_check_form : PySem.W.keepIn K (.ref f_check_form) = true)
    {f_last_of : Addr} {od_last_of an_last_of : Option Addr} {sl_last_of : Array (Option Value)} {oc_last_of kV_last_of dc_last_of pm_last_of cd_last_of ct_last_of : Value}
    (a_last_of : PySem.W.nsIn K mainGlobals "last_of" = some (some (.ref f_last_of)))
    (l_last_of : K.lookup f_last_of = some ⟨oc_last_of, od_last_of, .func (PySem.W.fnOf "last_of" "last_of" (defArgs s_last_of) (defBody s_last_of) (defScope s_last_of) .none kV_last_of dc_last_of pm_last_of an_last_of cd_last_of ct_last_of), sl_last_of⟩)
    (c_last_of : PySem.W.codeIn K cd_last_of "last_of" = true) (k_last_of : PySem.W.keepIn K (.ref f_last_of) = true)
    {f_Form__init_ : Addr} {od_Form__init_ an_Form__init_ : Option Addr} {sl_Form__init_ : Array (Option Value)} {oc_Form__init_ kV_Form__init_ dc_Form__init_ pm_Form__init_ cd_Form__init_ ct_Form__init_ : Value}
    (a_Form__init_ : PySem.W.findIn K (.ref C_Form) "__init__" = some (some (.ref f_Form__init_)))
    (l_Form__init_ : K.lookup f_Form__init_ = some ⟨oc_Form__init_, od_Form__init_, .func (PySem.W.fnOf "__init__" "Form.__init__" (defArgs s_Form__init_) (defBody s_Form__init_) (defScope s_Form__init_) .none kV_Form__init_ dc_Form__init_ pm_Form__init_ an_Form__init_ cd_Form__init_ ct_Form__init_), sl_Form__init_⟩)
    (c_Form__init_ : PySem.W.codeIn K cd_Form__init_ "Form.__init__" = true) (k_Form__init_ : PySem.W.keepIn K (.ref f_Form__init_) = true)
    {f_Form_product : Addr} {od_Form_product an_Form_product : Option Addr} {sl_Form_product : Array (Option Value)} {oc_Form_product kV_Form_product dc_Form_product pm_Form_product cd_Form_product ct_Form_product : Value}
    (a_Form_product : PySem.W.findIn K (.ref C_Form) "product" = some (some (.ref f_Form_product)))
    (l_Form_product : K.lookup f_Form_product = some ⟨oc_Form_product, od_Form_product, .func (PySem.W.fnOf "product" "Form.product" (defArgs s_Form_product) (defBody s_Form_product) (defScope s_Form_product) .none kV_Form_product dc_Form_product pm_Form_product an_Form_product cd_Form_product ct_Form_product), sl_Form_product⟩)
    (c_Form_product : PySem.W.codeIn K cd_Form_product "Form.product" = true) (k_Form_product : PySem.W.keepIn K (.ref f_Form_product) = true)
    {f_Form_norm : Addr} {od_Form_norm an_Form_norm : Option Addr} {sl_Form_norm : Array (Option Value)} {oc_Form_norm kV_Form_norm dc_Form_norm pm_Form_norm cd_Form_norm ct_Form_norm : Value}
    (a_Form_norm : PySem.W.findIn K (.ref C_Form) "norm" = some (some (.ref f_Form_norm)))
    (l_Form_norm : K.lookup f_Form_norm = some ⟨oc_Form_norm, od_Form_norm, .func (PySem.W.fnOf "norm" "Form.norm" (defArgs s_Form_norm) (defBody s_Form_norm) (defScope s_Form_norm) .none kV_Form_norm dc_Form_norm pm_Form_norm an_Form_norm cd_Form_norm ct_Form_norm), sl_Form_norm⟩)
    (c_Form_norm : PySem.W.codeIn K cd_Form_norm "Form.norm" = true) (k_Form_norm : PySem.W.keepIn K (.ref f_Form_norm) = true)
    {f_shifted : Addr} {od_shifted an_shifted : Option Addr} {sl_shifted : Array (Option Value)} {oc_shifted kV_shifted dc_shifted pm_shifted cd_shifted ct_shifted : Value}
    (a_shifted : PySem.W.nsIn K mainGlobals "shifted" = some (some (.ref f_shifted)))
    (l_shifted : K.lookup f_shifted = some ⟨oc_shifted, od_shifted, .func (PySem.W.fnOf "shifted" "shifted" (defArgs s_shifted) (defBody s_shifted) (defScope s_shifted) .none kV_shifted dc_shifted pm_shifted an_shifted cd_shifted ct_shifted), sl_shifted⟩)
    (c_shifted : PySem.W.codeIn K cd_shifted "shifted" = true) (k_shifted : PySem.W.keepIn K (.ref f_shifted) = true)
    {f_scaled : Addr} {od_scaled an_scaled : Option Addr} {sl_scaled : Array (Option Value)} {oc_scaled kV_scaled dc_scaled pm_scaled cd_scaled ct_scaled : Value}
    (a_scaled : PySem.W.nsIn K mainGlobals "scaled" = some (some (.ref f_scaled)))
    (l_scaled : K.lookup f_scaled = some ⟨oc_scaled, od_scaled, .func (PySem.W.fnOf "scaled" "scaled" (defArgs s_scaled) (defBody s_scaled) (defScope s_scaled) .none kV_scaled dc_scaled pm_scaled an_scaled cd_scaled ct_scaled), sl_scaled⟩)
    (c_scaled : PySem.W.codeIn K cd_scaled "scaled" = true) (k_scaled : PySem.W.keepIn K (.ref f_scaled) = true)
    {f_divided : Addr} {od_divided an_divided : Option Addr} {sl_divided : Array (Option Value)} {oc_divided kV_divided dc_divided pm_divided cd_divided ct_divided : Value}
    (a_divided : PySem.W.nsIn K mainGlobals "divided" = some (some (.ref f_divided)))
    (l_divided : K.lookup f_divided = some ⟨oc_divided, od_divided, .func (PySem.W.fnOf "divided" "divided" (defArgs s_divided) (defBody s_divided) (defScope s_divided) .none kV_divided dc_divided pm_divided an_divided cd_divided ct_divided), sl_divided⟩)
    (c_divided : PySem.W.codeIn K cd_divided "divided" = true) (k_divided : PySem.W.keepIn K (.ref f_divided) = true)
    {f_check_base : Addr} {od_check_base an_check_base : Option Addr} {sl_check_base : Array (Option Value)} {oc_check_base kV_check_base dc_check_base pm_check_base cd_check_base ct_check_base : Value}
    (a_check_base : PySem.W.nsIn K mainGlobals "check_base" = some (some (.ref f_check_base)))
    (l_check_base : K.lookup f_check_base = some ⟨oc_check_base, od_check_base, .func (PySem.W.fnOf "check_base" "check_base" (defArgs s_check_base) (defBody s_check_base) (defScope s_check_base) .none kV_check_base dc_check_base pm_check_base an_check_base cd_check_base ct_check_base), sl_check_base⟩)
    (c_check_base : PySem.W.codeIn K cd_check_base "check_base" = true) (k_check_base : PySem.W.keepIn K (.ref f_check_base) = true)
    {f_law_cell : Addr} {od_law_cell an_law_cell : Option Addr} {sl_law_cell : Array (Option Value)} {oc_law_cell kV_law_cell dc_law_cell pm_law_cell cd_law_cell ct_law_cell : Value}
    (a_law_cell : PySem.W.nsIn K mainGlobals "_law_cell" = some (some (.ref f_law_cell)))
    (l_law_cell : K.lookup f_law_cell = some ⟨oc_law_cell, od_law_cell, .func (PySem.W.fnOf "_law_cell" "_law_cell" (defArgs s_law_cell) (defBody s_law_cell) (defScope s_law_cell) .none kV_law_cell dc_law_cell pm_law_cell an_law_cell cd_law_cell ct_law_cell), sl_law_cell⟩)
    (c_law_cell : PySem.W.codeIn K cd_law_cell "_law_cell" = true) (k_law_cell : PySem.W.keepIn K (.ref f_law_cell) = true)
    {f_law_mixed : Addr} {od_law_mixed an_law_mixed : Option Addr} {sl_law_mixed : Array (Option Value)} {oc_law_mixed kV_law_mixed dc_law_mixed pm_law_mixed cd_law_mixed ct_law_mixed : Value}
    (a_law_mixed : PySem.W.nsIn K mainGlobals "_law_mixed" = some (some (.ref f_law_mixed)))
    (l_law_mixed : K.lookup f_law_mixed = some ⟨oc_law_mixed, od_law_mixed, .func (PySem.W.fnOf "_law_mixed" "_law_mixed" (defArgs s_law_mixed) (defBody s_law_mixed) (defScope s_law_mixed) .none kV_law_mixed dc_law_mixed pm_law_mixed an_law_mixed cd_law_mixed ct_law_mixed), sl_law_mixed⟩)
    (c_law_mixed : PySem.W.codeIn K cd_law_mixed "_law_mixed" = true) (k_law_mixed : PySem.W.keepIn K (.ref f_law_mixed) = true)
    {f_law_digits : Addr} {od_law_digits an_law_digits : Option Addr} {sl_law_digits : Array (Option Value)} {oc_law_digits kV_law_digits dc_law_digits pm_law_digits cd_law_digits ct_law_digits : Value}
    (a_law_digits : PySem.W.nsIn K mainGlobals "_law_digits" = some (some (.ref f_law_digits)))
    (l_law_digits : K.lookup f_law_digits = some ⟨oc_law_digits, od_law_digits, .func (PySem.W.fnOf "_law_digits" "_law_digits" (defArgs s_law_digits) (defBody s_law_digits) (defScope s_law_digits) .none kV_law_digits dc_law_digits pm_law_digits an_law_digits cd_law_digits ct_law_digits), sl_law_digits⟩)
    (c_law_digits : PySem.W.codeIn K cd_law_digits "_law_digits" = true) (k_law_digits : PySem.W.keepIn K (.ref f_law_digits) = true)
    {f_law_product : Addr} {od_law_product an_law_product : Option Addr} {sl_law_product : Array (Option Value)} {oc_law_product kV_law_product dc_law_product pm_law_product cd_law_product ct_law_product : Value}
    (a_law_product : PySem.W.nsIn K mainGlobals "_law_product" = some (some (.ref f_law_product)))
    (l_law_product : K.lookup f_law_product = some ⟨oc_law_product, od_law_product, .func (PySem.W.fnOf "_law_product" "_law_product" (defArgs s_law_product) (defBody s_law_product) (defScope s_law_product) .none kV_law_product dc_law_product pm_law_product an_law_product cd_law_product ct_law_product), sl_law_product⟩)
    (c_law_product : PySem.W.codeIn K cd_law_product "_law_product" = true) (k_law_product : PySem.W.keepIn K (.ref f_law_product) = true)
    {f_law_image : Addr} {od_law_image an_law_image : Option Addr} {sl_law_image : Array (Option Value)} {oc_law_image kV_law_image dc_law_image pm_law_image cd_law_image ct_law_image : Value}
    (a_law_image : PySem.W.nsIn K mainGlobals "_law_image" = some (some (.ref f_law_image)))
    (l_law_image : K.lookup f_law_image = some ⟨oc_law_image, od_law_image, .func (PySem.W.fnOf "_law_image" "_law_image" (defArgs s_law_image) (defBody s_law_image) (defScope s_law_image) .none kV_law_image dc_law_image pm_law_image an_law_image cd_law_image ct_law_image), sl_law_image⟩)
    (c_law_image : PySem.W.codeIn K cd_law_image "_law_image" = true) (k_law_image : PySem.W.keepIn K (.ref f_law_image) = true)
    {f_law_units : Addr} {od_law_units an_law_units : Option Addr} {sl_law_units : Array (Option Value)} {oc_law_units kV_law_units dc_law_units pm_law_units cd_law_units ct_law_units : Value}
    (a_law_units : PySem.W.nsIn K mainGlobals "_law_units" = some (some (.ref f_law_units)))
    (l_law_units : K.lookup f_law_units = some ⟨oc_law_units, od_law_units, .func (PySem.W.fnOf "_law_units" "_law_units" (defArgs s_law_units) (defBody s_law_units) (defScope s_law_units) .none kV_law_units dc_law_units pm_law_units an_law_units cd_law_units ct_law_units), sl_law_units⟩)
    (c_law_units : PySem.W.codeIn K cd_law_units "_law_units" = true) (k_law_units : PySem.W.keepIn K (.ref f_law_units) = true)
    {f_law_moves : Addr} {od_law_moves an_law_moves : Option Addr} {sl_law_moves : Array (Option Value)} {oc_law_moves kV_law_moves dc_law_moves pm_law_moves cd_law_moves ct_law_moves : Value}
    (a_law_moves : PySem.W.nsIn K mainGlobals "_law_moves" = some (some (.ref f_law_moves)))
    (l_law_moves : K.lookup f_law_moves = some ⟨oc_law_moves, od_law_moves, .func (PySem.W.fnOf "_law_moves" "_law_moves" (defArgs s_law_moves) (defBody s_law_moves) (defScope s_law_moves) .none kV_law_moves dc_law_moves pm_law_moves an_law_moves cd_law_moves ct_law_moves), sl_law_moves⟩)
    (c_law_moves : PySem.W.codeIn K cd_law_moves "_law_moves" = true) (k_law_moves : PySem.W.keepIn K (.ref f_law_moves) = true)
    {f_parted : Addr} {od_parted an_parted : Option Addr} {sl_parted : Array (Option Value)} {oc_parted kV_parted dc_parted pm_parted cd_parted ct_parted : Value}
    (a_parted : PySem.W.nsIn K mainGlobals "parted" = some (some (.ref f_parted)))
    (l_parted : K.lookup f_parted = some ⟨oc_parted, od_parted, .func (PySem.W.fnOf "parted" "parted" (defArgs s_parted) (defBody s_parted) (defScope s_parted) .none kV_parted dc_parted pm_parted an_parted cd_parted ct_parted), sl_parted⟩)
    (c_parted : PySem.W.codeIn K cd_parted "parted" = true) (k_parted : PySem.W.keepIn K (.ref f_parted) = true)
    {f_narrowed : Addr} {od_narrowed an_narrowed : Option Addr} {sl_narrowed : Array (Option Value)} {oc_narrowed kV_narrowed dc_narrowed pm_narrowed cd_narrowed ct_narrowed : Value}
    (a_narrowed : PySem.W.nsIn K mainGlobals "narrowed" = some (some (.ref f_narrowed)))
    (l_narrowed : K.lookup f_narrowed = some ⟨oc_narrowed, od_narrowed, .func (PySem.W.fnOf "narrowed" "narrowed" (defArgs s_narrowed) (defBody s_narrowed) (defScope s_narrowed) .none kV_narrowed dc_narrowed pm_narrowed an_narrowed cd_narrowed ct_narrowed), sl_narrowed⟩)
    (c_narrowed : PySem.W.codeIn K cd_narrowed "narrowed" = true) (k_narrowed : PySem.W.keepIn K (.ref f_narrowed) = true)
    {f_shortened : Addr} {od_shortened an_shortened : Option Addr} {sl_shortened : Array (Option Value)} {oc_shortened kV_shortened dc_shortened pm_shortened cd_shortened ct_shortened : Value}
    (a_shortened : PySem.W.nsIn K mainGlobals "shortened" = some (some (.ref f_shortened)))
    (l_shortened : K.lookup f_shortened = some ⟨oc_shortened, od_shortened, .func (PySem.W.fnOf "shortened" "shortened" (defArgs s_shortened) (defBody s_shortened) (defScope s_shortened) .none kV_shortened dc_shortened pm_shortened an_shortened cd_shortened ct_shortened), sl_shortened⟩)
    (c_shortened : PySem.W.codeIn K cd_shortened "shortened" = true) (k_shortened : PySem.W.keepIn K (.ref f_shortened) = true)
    {f_points_on : Addr} {od_points_on an_points_on : Option Addr} {sl_points_on : Array (Option Value)} {oc_points_on kV_points_on dc_points_on pm_points_on cd_points_on ct_points_on : Value}
    (a_points_on : PySem.W.nsIn K mainGlobals "points_on" = some (some (.ref f_points_on)))
    (l_points_on : K.lookup f_points_on = some ⟨oc_points_on, od_points_on, .func (PySem.W.fnOf "points_on" "points_on" (defArgs s_points_on) (defBody s_points_on) (defScope s_points_on) .none kV_points_on dc_points_on pm_points_on an_points_on cd_points_on ct_points_on), sl_points_on⟩)
    (c_points_on : PySem.W.codeIn K cd_points_on "points_on" = true) (k_points_on : PySem.W.keepIn K (.ref f_points_on) = true)
    {f_Layers__init_ : Addr} {od_Layers__init_ an_Layers__init_ : Option Addr} {sl_Layers__init_ : Array (Option Value)} {oc_Layers__init_ kV_Layers__init_ dc_Layers__init_ pm_Layers__init_ cd_Layers__init_ ct_Layers__init_ : Value}
    (a_Layers__init_ : PySem.W.findIn K (.ref C_Layers) "__init__" = some (some (.ref f_Layers__init_)))
    (l_Layers__init_ : K.lookup f_Layers__init_ = some ⟨oc_Layers__init_, od_Layers__init_, .func (PySem.W.fnOf "__init__" "Layers.__init__" (defArgs s_Layers__init_) (defBody s_Layers__init_) (defScope s_Layers__init_) .none kV_Layers__init_ dc_Layers__init_ pm_Layers__init_ an_Layers__init_ cd_Layers__init_ ct_Layers__init_), sl_Layers__init_⟩)
    (c_Layers__init_ : PySem.W.codeIn K cd_Layers__init_ "Layers.__init__" = true) (k_Layers__init_ : PySem.W.keepIn K (.ref f_Layers__init_) = true)
    {f_Layers_rows_with : Addr} {od_Layers_rows_with an_Layers_rows_with : Option Addr} {sl_Layers_rows_with : Array (Option Value)} {oc_Layers_rows_with kV_Layers_rows_with dc_Layers_rows_with pm_Layers_rows_with cd_Layers_rows_with ct_Layers_rows_with : Value}
    (a_Layers_rows_with : PySem.W.findIn K (.ref C_Layers) "rows_with" = some (some (.ref f_Layers_rows_with)))
    (l_Layers_rows_with : K.lookup f_Layers_rows_with = some ⟨oc_Layers_rows_with, od_Layers_rows_with, .func (PySem.W.fnOf "rows_with" "Layers.rows_with" (defArgs s_Layers_rows_with) (defBody s_Layers_rows_with) (defScope s_Layers_rows_with) .none kV_Layers_rows_with dc_Layers_rows_with pm_Layers_rows_with an_Layers_rows_with cd_Layers_rows_with ct_Layers_rows_with), sl_Layers_rows_with⟩)
    (c_Layers_rows_with : PySem.W.codeIn K cd_Layers_rows_with "Layers.rows_with" = true) (k_Layers_rows_with : PySem.W.keepIn K (.ref f_Layers_rows_with) = true)
    {f_is_bare : Addr} {od_is_bare an_is_bare : Option Addr} {sl_is_bare : Array (Option Value)} {oc_is_bare kV_is_bare dc_is_bare pm_is_bare cd_is_bare ct_is_bare : Value}
    (a_is_bare : PySem.W.nsIn K mainGlobals "is_bare" = some (some (.ref f_is_bare)))
    (l_is_bare : K.lookup f_is_bare = some ⟨oc_is_bare, od_is_bare, .func (PySem.W.fnOf "is_bare" "is_bare" (defArgs s_is_bare) (defBody s_is_bare) (defScope s_is_bare) .none kV_is_bare dc_is_bare pm_is_bare an_is_bare cd_is_bare ct_is_bare), sl_is_bare⟩)
    (c_is_bare : PySem.W.codeIn K cd_is_bare "is_bare" = true) (k_is_bare : PySem.W.keepIn K (.ref f_is_bare) = true)
    {f_kinds : Addr} {od_kinds an_kinds : Option Addr} {sl_kinds : Array (Option Value)} {oc_kinds kV_kinds dc_kinds pm_kinds cd_kinds ct_kinds : Value}
    (a_kinds : PySem.W.nsIn K mainGlobals "kinds" = some (some (.ref f_kinds)))
    (l_kinds : K.lookup f_kinds = some ⟨oc_kinds, od_kinds, .func (PySem.W.fnOf "kinds" "kinds" (defArgs s_kinds) (defBody s_kinds) (defScope s_kinds) .none kV_kinds dc_kinds pm_kinds an_kinds cd_kinds ct_kinds), sl_kinds⟩)
    (c_kinds : PySem.W.codeIn K cd_kinds "kinds" = true) (k_kinds : PySem.W.keepIn K (.ref f_kinds) = true)
    {f_is_outward : Addr} {od_is_outward an_is_outward : Option Addr} {sl_is_outward : Array (Option Value)} {oc_is_outward kV_is_outward dc_is_outward pm_is_outward cd_is_outward ct_is_outward : Value}
    (a_is_outward : PySem.W.nsIn K mainGlobals "is_outward" = some (some (.ref f_is_outward)))
    (l_is_outward : K.lookup f_is_outward = some ⟨oc_is_outward, od_is_outward, .func (PySem.W.fnOf "is_outward" "is_outward" (defArgs s_is_outward) (defBody s_is_outward) (defScope s_is_outward) .none kV_is_outward dc_is_outward pm_is_outward an_is_outward cd_is_outward ct_is_outward), sl_is_outward⟩)
    (c_is_outward : PySem.W.codeIn K cd_is_outward "is_outward" = true) (k_is_outward : PySem.W.keepIn K (.ref f_is_outward) = true)
    {f_layers_of_kind : Addr} {od_layers_of_kind an_layers_of_kind : Option Addr} {sl_layers_of_kind : Array (Option Value)} {oc_layers_of_kind kV_layers_of_kind dc_layers_of_kind pm_layers_of_kind cd_layers_of_kind ct_layers_of_kind : Value}
    (a_layers_of_kind : PySem.W.nsIn K mainGlobals "layers_of_kind" = some (some (.ref f_layers_of_kind)))
    (l_layers_of_kind : K.lookup f_layers_of_kind = some ⟨oc_layers_of_kind, od_layers_of_kind, .func (PySem.W.fnOf "layers_of_kind" "layers_of_kind" (defArgs s_layers_of_kind) (defBody s_layers_of_kind) (defScope s_layers_of_kind) .none kV_layers_of_kind dc_layers_of_kind pm_layers_of_kind an_layers_of_kind cd_layers_of_kind ct_layers_of_kind), sl_layers_of_kind⟩)
    (c_layers_of_kind : PySem.W.codeIn K cd_layers_of_kind "layers_of_kind" = true) (k_layers_of_kind : PySem.W.keepIn K (.ref f_layers_of_kind) = true)
    {f_roots_of_layer : Addr} {od_roots_of_layer an_roots_of_layer : Option Addr} {sl_roots_of_layer : Array (Option Value)} {oc_roots_of_layer kV_roots_of_layer dc_roots_of_layer pm_roots_of_layer cd_roots_of_layer ct_roots_of_layer : Value}
    (a_roots_of_layer : PySem.W.nsIn K mainGlobals "roots_of_layer" = some (some (.ref f_roots_of_layer)))
    (l_roots_of_layer : K.lookup f_roots_of_layer = some ⟨oc_roots_of_layer, od_roots_of_layer, .func (PySem.W.fnOf "roots_of_layer" "roots_of_layer" (defArgs s_roots_of_layer) (defBody s_roots_of_layer) (defScope s_roots_of_layer) .none kV_roots_of_layer dc_roots_of_layer pm_roots_of_layer an_roots_of_layer cd_roots_of_layer ct_roots_of_layer), sl_roots_of_layer⟩)
    (c_roots_of_layer : PySem.W.codeIn K cd_roots_of_layer "roots_of_layer" = true) (k_roots_of_layer : PySem.W.keepIn K (.ref f_roots_of_layer) = true)
    {f_outward_roots : Addr} {od_outward_roots an_outward_roots : Option Addr} {sl_outward_roots : Array (Option Value)} {oc_outward_roots kV_outward_roots dc_outward_roots pm_outward_roots cd_outward_roots ct_outward_roots : Value}
    (a_outward_roots : PySem.W.nsIn K mainGlobals "outward_roots" = some (some (.ref f_outward_roots)))
    (l_outward_roots : K.lookup f_outward_roots = some ⟨oc_outward_roots, od_outward_roots, .func (PySem.W.fnOf "outward_roots" "outward_roots" (defArgs s_outward_roots) (defBody s_outward_roots) (defScope s_outward_roots) .none kV_outward_roots dc_outward_roots pm_outward_roots an_outward_roots cd_outward_roots ct_outward_roots), sl_outward_roots⟩)
    (c_outward_roots : PySem.W.codeIn K cd_outward_roots "outward_roots" = true) (k_outward_roots : PySem.W.keepIn K (.ref f_outward_roots) = true)
    {f_outermost : Addr} {od_outermost an_outermost : Option Addr} {sl_outermost : Array (Option Value)} {oc_outermost kV_outermost dc_outermost pm_outermost cd_outermost ct_outermost : Value}
    (a_outermost : PySem.W.nsIn K mainGlobals "outermost" = some (some (.ref f_outermost)))
    (l_outermost : K.lookup f_outermost = some ⟨oc_outermost, od_outermost, .func (PySem.W.fnOf "outermost" "outermost" (defArgs s_outermost) (defBody s_outermost) (defScope s_outermost) .none kV_outermost dc_outermost pm_outermost an_outermost cd_outermost ct_outermost), sl_outermost⟩)
    (c_outermost : PySem.W.codeIn K cd_outermost "outermost" = true) (k_outermost : PySem.W.keepIn K (.ref f_outermost) = true)
    {f_walls_among : Addr} {od_walls_among an_walls_among : Option Addr} {sl_walls_among : Array (Option Value)} {oc_walls_among kV_walls_among dc_walls_among pm_walls_among cd_walls_among ct_walls_among : Value}
    (a_walls_among : PySem.W.nsIn K mainGlobals "walls_among" = some (some (.ref f_walls_among)))
    (l_walls_among : K.lookup f_walls_among = some ⟨oc_walls_among, od_walls_among, .func (PySem.W.fnOf "walls_among" "walls_among" (defArgs s_walls_among) (defBody s_walls_among) (defScope s_walls_among) .none kV_walls_among dc_walls_among pm_walls_among an_walls_among cd_walls_among ct_walls_among), sl_walls_among⟩)
    (c_walls_among : PySem.W.codeIn K cd_walls_among "walls_among" = true) (k_walls_among : PySem.W.keepIn K (.ref f_walls_among) = true)
    {f_check_within : Addr} {od_check_within an_check_within : Option Addr} {sl_check_within : Array (Option Value)} {oc_check_within kV_check_within dc_check_within pm_check_within cd_check_within ct_check_within : Value}
    (a_check_within : PySem.W.nsIn K mainGlobals "check_within" = some (some (.ref f_check_within)))
    (l_check_within : K.lookup f_check_within = some ⟨oc_check_within, od_check_within, .func (PySem.W.fnOf "check_within" "check_within" (defArgs s_check_within) (defBody s_check_within) (defScope s_check_within) .none kV_check_within dc_check_within pm_check_within an_check_within cd_check_within ct_check_within), sl_check_within⟩)
    (c_check_within : PySem.W.codeIn K cd_check_within "check_within" = true) (k_check_within : PySem.W.keepIn K (.ref f_check_within) = true)
    {f_Room__init_ : Addr} {od_Room__init_ an_Room__init_ : Option Addr} {sl_Room__init_ : Array (Option Value)} {oc_Room__init_ kV_Room__init_ dc_Room__init_ pm_Room__init_ cd_Room__init_ ct_Room__init_ : Value}
    (a_Room__init_ : PySem.W.findIn K (.ref C_Room) "__init__" = some (some (.ref f_Room__init_)))
    (l_Room__init_ : K.lookup f_Room__init_ = some ⟨oc_Room__init_, od_Room__init_, .func (PySem.W.fnOf "__init__" "Room.__init__" (defArgs s_Room__init_) (defBody s_Room__init_) (defScope s_Room__init_) .none kV_Room__init_ dc_Room__init_ pm_Room__init_ an_Room__init_ cd_Room__init_ ct_Room__init_), sl_Room__init_⟩)
    (c_Room__init_ : PySem.W.codeIn K cd_Room__init_ "Room.__init__" = true) (k_Room__init_ : PySem.W.keepIn K (.ref f_Room__init_) = true)
    {f_Room_walls : Addr} {od_Room_walls an_Room_walls : Option Addr} {sl_Room_walls : Array (Option Value)} {oc_Room_walls kV_Room_walls dc_Room_walls pm_Room_walls cd_Room_walls ct_Room_walls : Value}
    (a_Room_walls : PySem.W.findIn K (.ref C_Room) "walls" = some (some (.ref f_Room_walls)))
    (l_Room_walls : K.lookup f_Room_walls = some ⟨oc_Room_walls, od_Room_walls, .func (PySem.W.fnOf "walls" "Room.walls" (defArgs s_Room_walls) (defBody s_Room_walls) (defScope s_Room_walls) .none kV_Room_walls dc_Room_walls pm_Room_walls an_Room_walls cd_Room_walls ct_Room_walls), sl_Room_walls⟩)
    (c_Room_walls : PySem.W.codeIn K cd_Room_walls "Room.walls" = true) (k_Room_walls : PySem.W.keepIn K (.ref f_Room_walls) = true)
    {f_Room_reach : Addr} {od_Room_reach an_Room_reach : Option Addr} {sl_Room_reach : Array (Option Value)} {oc_Room_reach kV_Room_reach dc_Room_reach pm_Room_reach cd_Room_reach ct_Room_reach : Value}
    (a_Room_reach : PySem.W.findIn K (.ref C_Room) "reach" = some (some (.ref f_Room_reach)))
    (l_Room_reach : K.lookup f_Room_reach = some ⟨oc_Room_reach, od_Room_reach, .func (PySem.W.fnOf "reach" "Room.reach" (defArgs s_Room_reach) (defBody s_Room_reach) (defScope s_Room_reach) .none kV_Room_reach dc_Room_reach pm_Room_reach an_Room_reach cd_Room_reach ct_Room_reach), sl_Room_reach⟩)
    (c_Room_reach : PySem.W.codeIn K cd_Room_reach "Room.reach" = true) (k_Room_reach : PySem.W.keepIn K (.ref f_Room_reach) = true)
    {f_walls_to : Addr} {od_walls_to an_walls_to : Option Addr} {sl_walls_to : Array (Option Value)} {oc_walls_to kV_walls_to dc_walls_to pm_walls_to cd_walls_to ct_walls_to : Value}
    (a_walls_to : PySem.W.nsIn K mainGlobals "walls_to" = some (some (.ref f_walls_to)))
    (l_walls_to : K.lookup f_walls_to = some ⟨oc_walls_to, od_walls_to, .func (PySem.W.fnOf "walls_to" "walls_to" (defArgs s_walls_to) (defBody s_walls_to) (defScope s_walls_to) .none kV_walls_to dc_walls_to pm_walls_to an_walls_to cd_walls_to ct_walls_to), sl_walls_to⟩)
    (c_walls_to : PySem.W.codeIn K cd_walls_to "walls_to" = true) (k_walls_to : PySem.W.keepIn K (.ref f_walls_to) = true)
    {f_meeting : Addr} {od_meeting an_meeting : Option Addr} {sl_meeting : Array (Option Value)} {oc_meeting kV_meeting dc_meeting pm_meeting cd_meeting ct_meeting : Value}
    (a_meeting : PySem.W.nsIn K mainGlobals "meeting" = some (some (.ref f_meeting)))
    (l_meeting : K.lookup f_meeting = some ⟨oc_meeting, od_meeting, .func (PySem.W.fnOf "meeting" "meeting" (defArgs s_meeting) (defBody s_meeting) (defScope s_meeting) .none kV_meeting dc_meeting pm_meeting an_meeting cd_meeting ct_meeting), sl_meeting⟩)
    (c_meeting : PySem.W.codeIn K cd_meeting "meeting" = true) (k_meeting : PySem.W.keepIn K (.ref f_meeting) = true)
    {f_neighbours_of : Addr} {od_neighbours_of an_neighbours_of : Option Addr} {sl_neighbours_of : Array (Option Value)} {oc_neighbours_of kV_neighbours_of dc_neighbours_of pm_neighbours_of cd_neighbours_of ct_neighbours_of : Value}
    (a_neighbours_of : PySem.W.nsIn K mainGlobals "neighbours_of" = some (some (.ref f_neighbours_of)))
    (l_neighbours_of : K.lookup f_neighbours_of = some ⟨oc_neighbours_of, od_neighbours_of, .func (PySem.W.fnOf "neighbours_of" "neighbours_of" (defArgs s_neighbours_of) (defBody s_neighbours_of) (defScope s_neighbours_of) .none kV_neighbours_of dc_neighbours_of pm_neighbours_of an_neighbours_of cd_neighbours_of ct_neighbours_of), sl_neighbours_of⟩)
    (c_neighbours_of : PySem.W.codeIn K cd_neighbours_of "neighbours_of" = true) (k_neighbours_of : PySem.W.keepIn K (.ref f_neighbours_of) = true)
    {f_way_round : Addr} {od_way_round an_way_round : Option Addr} {sl_way_round : Array (Option Value)} {oc_way_round kV_way_round dc_way_round pm_way_round cd_way_round ct_way_round : Value}
    (a_way_round : PySem.W.nsIn K mainGlobals "way_round" = some (some (.ref f_way_round)))
    (l_way_round : K.lookup f_way_round = some ⟨oc_way_round, od_way_round, .func (PySem.W.fnOf "way_round" "way_round" (defArgs s_way_round) (defBody s_way_round) (defScope s_way_round) .none kV_way_round dc_way_round pm_way_round an_way_round cd_way_round ct_way_round), sl_way_round⟩)
    (c_way_round : PySem.W.codeIn K cd_way_round "way_round" = true) (k_way_round : PySem.W.keepIn K (.ref f_way_round) = true)
    {f_ring_of : Addr} {od_ring_of an_ring_of : Option Addr} {sl_ring_of : Array (Option Value)} {oc_ring_of kV_ring_of dc_ring_of pm_ring_of cd_ring_of ct_ring_of : Value}
    (a_ring_of : PySem.W.nsIn K mainGlobals "ring_of" = some (some (.ref f_ring_of)))
    (l_ring_of : K.lookup f_ring_of = some ⟨oc_ring_of, od_ring_of, .func (PySem.W.fnOf "ring_of" "ring_of" (defArgs s_ring_of) (defBody s_ring_of) (defScope s_ring_of) .none kV_ring_of dc_ring_of pm_ring_of an_ring_of cd_ring_of ct_ring_of), sl_ring_of⟩)
    (c_ring_of : PySem.W.codeIn K cd_ring_of "ring_of" = true) (k_ring_of : PySem.W.keepIn K (.ref f_ring_of) = true)
    {f_makes_ring : Addr} {od_makes_ring an_makes_ring : Option Addr} {sl_makes_ring : Array (Option Value)} {oc_makes_ring kV_makes_ring dc_makes_ring pm_makes_ring cd_makes_ring ct_makes_ring : Value}
    (a_makes_ring : PySem.W.nsIn K mainGlobals "makes_ring" = some (some (.ref f_makes_ring)))
    (l_makes_ring : K.lookup f_makes_ring = some ⟨oc_makes_ring, od_makes_ring, .func (PySem.W.fnOf "makes_ring" "makes_ring" (defArgs s_makes_ring) (defBody s_makes_ring) (defScope s_makes_ring) .none kV_makes_ring dc_makes_ring pm_makes_ring an_makes_ring cd_makes_ring ct_makes_ring), sl_makes_ring⟩)
    (c_makes_ring : PySem.W.codeIn K cd_makes_ring "makes_ring" = true) (k_makes_ring : PySem.W.keepIn K (.ref f_makes_ring) = true)
    {f_check_depth : Addr} {od_check_depth an_check_depth : Option Addr} {sl_check_depth : Array (Option Value)} {oc_check_depth kV_check_depth dc_check_depth pm_check_depth cd_check_depth ct_check_depth : Value}
    (a_check_depth : PySem.W.nsIn K mainGlobals "check_depth" = some (some (.ref f_check_depth)))
    (l_check_depth : K.lookup f_check_depth = some ⟨oc_check_depth, od_check_depth, .func (PySem.W.fnOf "check_depth" "check_depth" (defArgs s_check_depth) (defBody s_check_depth) (defScope s_check_depth) .none kV_check_depth dc_check_depth pm_check_depth an_check_depth cd_check_depth ct_check_depth), sl_check_depth⟩)
    (c_check_depth : PySem.W.codeIn K cd_check_depth "check_depth" = true) (k_check_depth : PySem.W.keepIn K (.ref f_check_depth) = true)
    {f_is_row : Addr} {od_is_row an_is_row : Option Addr} {sl_is_row : Array (Option Value)} {oc_is_row kV_is_row dc_is_row pm_is_row cd_is_row ct_is_row : Value}
    (a_is_row : PySem.W.nsIn K mainGlobals "is_row" = some (some (.ref f_is_row)))
    (l_is_row : K.lookup f_is_row = some ⟨oc_is_row, od_is_row, .func (PySem.W.fnOf "is_row" "is_row" (defArgs s_is_row) (defBody s_is_row) (defScope s_is_row) .none kV_is_row dc_is_row pm_is_row an_is_row cd_is_row ct_is_row), sl_is_row⟩)
    (c_is_row : PySem.W.codeIn K cd_is_row "is_row" = true) (k_is_row : PySem.W.keepIn K (.ref f_is_row) = true)
    {f_is_root : Addr} {od_is_root an_is_root : Option Addr} {sl_is_root : Array (Option Value)} {oc_is_root kV_is_root dc_is_root pm_is_root cd_is_root ct_is_root : Value}
    (a_is_root : PySem.W.nsIn K mainGlobals "is_root" = some (some (.ref f_is_root)))
    (l_is_root : K.lookup f_is_root = some ⟨oc_is_root, od_is_root, .func (PySem.W.fnOf "is_root" "is_root" (defArgs s_is_root) (defBody s_is_root) (defScope s_is_root) .none kV_is_root dc_is_root pm_is_root an_is_root cd_is_root ct_is_root), sl_is_root⟩)
    (c_is_root : PySem.W.codeIn K cd_is_root "is_root" = true) (k_is_root : PySem.W.keepIn K (.ref f_is_root) = true)
    {f_is_closed : Addr} {od_is_closed an_is_closed : Option Addr} {sl_is_closed : Array (Option Value)} {oc_is_closed kV_is_closed dc_is_closed pm_is_closed cd_is_closed ct_is_closed : Value}
    (a_is_closed : PySem.W.nsIn K mainGlobals "is_closed" = some (some (.ref f_is_closed)))
    (l_is_closed : K.lookup f_is_closed = some ⟨oc_is_closed, od_is_closed, .func (PySem.W.fnOf "is_closed" "is_closed" (defArgs s_is_closed) (defBody s_is_closed) (defScope s_is_closed) .none kV_is_closed dc_is_closed pm_is_closed an_is_closed cd_is_closed ct_is_closed), sl_is_closed⟩)
    (c_is_closed : PySem.W.codeIn K cd_is_closed "is_closed" = true) (k_is_closed : PySem.W.keepIn K (.ref f_is_closed) = true)
    {f_Room_holds : Addr} {od_Room_holds an_Room_holds : Option Addr} {sl_Room_holds : Array (Option Value)} {oc_Room_holds kV_Room_holds dc_Room_holds pm_Room_holds cd_Room_holds ct_Room_holds : Value}
    (a_Room_holds : PySem.W.findIn K (.ref C_Room) "holds" = some (some (.ref f_Room_holds)))
    (l_Room_holds : K.lookup f_Room_holds = some ⟨oc_Room_holds, od_Room_holds, .func (PySem.W.fnOf "holds" "Room.holds" (defArgs s_Room_holds) (defBody s_Room_holds) (defScope s_Room_holds) .none kV_Room_holds dc_Room_holds pm_Room_holds an_Room_holds cd_Room_holds ct_Room_holds), sl_Room_holds⟩)
    (c_Room_holds : PySem.W.codeIn K cd_Room_holds "Room.holds" = true) (k_Room_holds : PySem.W.keepIn K (.ref f_Room_holds) = true)
    {f_law : Addr} {od_law an_law : Option Addr} {sl_law : Array (Option Value)} {oc_law kV_law dc_law pm_law cd_law ct_law : Value}
    (a_law : PySem.W.nsIn K mainGlobals "law" = some (some (.ref f_law)))
    (l_law : K.lookup f_law = some ⟨oc_law, od_law, .func (PySem.W.fnOf "law" "law" (defArgs s_law) (defBody s_law) (defScope s_law) .none kV_law dc_law pm_law an_law cd_law ct_law), sl_law⟩)
    (c_law : PySem.W.codeIn K cd_law "law" = true) (k_law : PySem.W.keepIn K (.ref f_law) = true)
    (z_isinstance : PySem.W.nsIn K mainGlobals "isinstance" = some none)
    (z_bool : PySem.W.nsIn K mainGlobals "bool" = some none)
    (z_int : PySem.W.nsIn K mainGlobals "int" = some none)
    (z_all : PySem.W.nsIn K mainGlobals "all" = some none)
    (z_abs : PySem.W.nsIn K mainGlobals "abs" = some none)
    (z_len : PySem.W.nsIn K mainGlobals "len" = some none)
    (z_range : PySem.W.nsIn K mainGlobals "range" = some none)
    (z_tuple : PySem.W.nsIn K mainGlobals "tuple" = some none)
    (z_list : PySem.W.nsIn K mainGlobals "list" = some none)
    (z_sorted : PySem.W.nsIn K mainGlobals "sorted" = some none)
    (z_min : PySem.W.nsIn K mainGlobals "min" = some none)
    (z_any : PySem.W.nsIn K mainGlobals "any" = some none)
    {C_BadForm : Addr} (ga_BadForm : PySem.W.nsIn K mainGlobals "BadForm" = some (some (.ref C_BadForm))) (x_BadForm : PySem.W.excIn K C_BadForm [.type "ValueError", .type "Exception", .type "BaseException", .type "object"] "ValueError.__new__" = true) (kc_BadForm : PySem.W.keepIn K (.ref C_BadForm) = true) (bc_BadForm : PySem.W.subIn K (.ref C_BadForm) (.type "BaseException") = some true) (tc_BadForm : PySem.W.typeIn K (.ref C_BadForm) = some (.type "type")) (ic_BadForm : PySem.W.hasDictIn K C_BadForm = true)
    {C_BadBase : Addr} (ga_BadBase : PySem.W.nsIn K mainGlobals "BadBase" = some (some (.ref C_BadBase))) (x_BadBase : PySem.W.excIn K C_BadBase [.type "ValueError", .type "Exception", .type "BaseException", .type "object"] "ValueError.__new__" = true) (kc_BadBase : PySem.W.keepIn K (.ref C_BadBase) = true) (bc_BadBase : PySem.W.subIn K (.ref C_BadBase) (.type "BaseException") = some true) (tc_BadBase : PySem.W.typeIn K (.ref C_BadBase) = some (.type "type")) (ic_BadBase : PySem.W.hasDictIn K C_BadBase = true)
    {C_BadNumber : Addr} (ga_BadNumber : PySem.W.nsIn K mainGlobals "BadNumber" = some (some (.ref C_BadNumber))) (x_BadNumber : PySem.W.excIn K C_BadNumber [.type "ValueError", .type "Exception", .type "BaseException", .type "object"] "ValueError.__new__" = true) (kc_BadNumber : PySem.W.keepIn K (.ref C_BadNumber) = true) (bc_BadNumber : PySem.W.subIn K (.ref C_BadNumber) (.type "BaseException") = some true) (tc_BadNumber : PySem.W.typeIn K (.ref C_BadNumber) = some (.type "type")) (ic_BadNumber : PySem.W.hasDictIn K C_BadNumber = true)
    {C_BadRow : Addr} (ga_BadRow : PySem.W.nsIn K mainGlobals "BadRow" = some (some (.ref C_BadRow))) (x_BadRow : PySem.W.excIn K C_BadRow [.type "ValueError", .type "Exception", .type "BaseException", .type "object"] "ValueError.__new__" = true) (kc_BadRow : PySem.W.keepIn K (.ref C_BadRow) = true) (bc_BadRow : PySem.W.subIn K (.ref C_BadRow) (.type "BaseException") = some true) (tc_BadRow : PySem.W.typeIn K (.ref C_BadRow) = some (.type "type")) (ic_BadRow : PySem.W.hasDictIn K C_BadRow = true)
    {C_TooFar : Addr} (ga_TooFar : PySem.W.nsIn K mainGlobals "TooFar" = some (some (.ref C_TooFar))) (x_TooFar : PySem.W.excIn K C_TooFar [.type "ValueError", .type "Exception", .type "BaseException", .type "object"] "ValueError.__new__" = true) (kc_TooFar : PySem.W.keepIn K (.ref C_TooFar) = true) (bc_TooFar : PySem.W.subIn K (.ref C_TooFar) (.type "BaseException") = some true) (tc_TooFar : PySem.W.typeIn K (.ref C_TooFar) = some (.type "type")) (ic_TooFar : PySem.W.hasDictIn K C_TooFar = true)
    {v_GREATEST_ITEM : Tok} (cc_GREATEST_ITEM : PySem.W.nsIn K mainGlobals "GREATEST_ITEM" = some (some (.int (1000) v_GREATEST_ITEM)))
    {v_LEAST_DETERMINANT : Tok} (cc_LEAST_DETERMINANT : PySem.W.nsIn K mainGlobals "LEAST_DETERMINANT" = some (some (.int (-500) v_LEAST_DETERMINANT)))
    {v_GREATEST_BOUND : Tok} (cc_GREATEST_BOUND : PySem.W.nsIn K mainGlobals "GREATEST_BOUND" = some (some (.int (500) v_GREATEST_BOUND)))
    {a_TURNS : Addr} (gm_TURNS : PySem.W.nsIn K mainGlobals "TURNS" = some (some (.ref a_TURNS)))
    {n_TURNS : Nat} {x0_TURNS y0_TURNS x1_TURNS y1_TURNS x2_TURNS y2_TURNS x3_TURNS y3_TURNS x4_TURNS y4_TURNS : Tok} (lm_TURNS : K.lookup a_TURNS = some ⟨.type "dict", none, .dict #[⟨0, .int (0) x0_TURNS, .int (2) y0_TURNS⟩, ⟨1, .int (1) x1_TURNS, .int (3) y1_TURNS⟩, ⟨2, .int (2) x2_TURNS, .int (4) y2_TURNS⟩, ⟨3, .int (3) x3_TURNS, .int (6) y3_TURNS⟩, ⟨4, .int (4) x4_TURNS, .int (0) y4_TURNS⟩] n_TURNS, #[]⟩) (nd_TURNS : (a_TURNS == sysModules) = false)
    {a_UNIT_ROWS : Addr} (gm_UNIT_ROWS : PySem.W.nsIn K mainGlobals "UNIT_ROWS" = some (some (.ref a_UNIT_ROWS)))
    {r0_UNIT_ROWS r1_UNIT_ROWS r2_UNIT_ROWS : Addr} {od_UNIT_ROWS : Option Addr} {n_UNIT_ROWS : Nat} {sl_UNIT_ROWS : Array (Option Value)} (lm_UNIT_ROWS : K.lookup a_UNIT_ROWS = some ⟨.type "tuple", od_UNIT_ROWS, .seq #[.ref r0_UNIT_ROWS, .ref r1_UNIT_ROWS, .ref r2_UNIT_ROWS] n_UNIT_ROWS, sl_UNIT_ROWS⟩)
    {od0_UNIT_ROWS : Option Addr} {n0_UNIT_ROWS : Nat} {sl0_UNIT_ROWS : Array (Option Value)} {x0_UNIT_ROWS y0_UNIT_ROWS z0_UNIT_ROWS : Tok} (lm0_UNIT_ROWS : K.lookup r0_UNIT_ROWS = some ⟨.type "tuple", od0_UNIT_ROWS, .seq #[.int (1) x0_UNIT_ROWS, .int (0) y0_UNIT_ROWS, .int (0) z0_UNIT_ROWS] n0_UNIT_ROWS, sl0_UNIT_ROWS⟩)
    {od1_UNIT_ROWS : Option Addr} {n1_UNIT_ROWS : Nat} {sl1_UNIT_ROWS : Array (Option Value)} {x1_UNIT_ROWS y1_UNIT_ROWS z1_UNIT_ROWS : Tok} (lm1_UNIT_ROWS : K.lookup r1_UNIT_ROWS = some ⟨.type "tuple", od1_UNIT_ROWS, .seq #[.int (0) x1_UNIT_ROWS, .int (1) y1_UNIT_ROWS, .int (0) z1_UNIT_ROWS] n1_UNIT_ROWS, sl1_UNIT_ROWS⟩)
    {od2_UNIT_ROWS : Option Addr} {n2_UNIT_ROWS : Nat} {sl2_UNIT_ROWS : Array (Option Value)} {x2_UNIT_ROWS y2_UNIT_ROWS z2_UNIT_ROWS : Tok} (lm2_UNIT_ROWS : K.lookup r2_UNIT_ROWS = some ⟨.type "tuple", od2_UNIT_ROWS, .seq #[.int (0) x2_UNIT_ROWS, .int (0) y2_UNIT_ROWS, .int (1) z2_UNIT_ROWS] n2_UNIT_ROWS, sl2_UNIT_ROWS⟩)
    (z_gcd : PySem.W.nsIn K mainGlobals "gcd" = some (some (.builtin "math.gcd")))
    (z_isqrt : PySem.W.nsIn K mainGlobals "isqrt" = some (some (.builtin "math.isqrt")))
    (pg_Form : PySem.W.plainGet K C_Form Str.empty = true) (hd_Form : PySem.W.hasDictIn K C_Form = true) (po_Form : PySem.W.plainOver K C_Form = true) (sa_Form : PySem.W.findIn K (.ref C_Form) "__setattr__" = some (some (.builtin "object.__setattr__"))) (mk_Form : PySem.W.makesIn K C_Form = true) (kp_Form : PySem.W.keepIn K (.ref C_Form) = true)
    (na_Form_table : PySem.W.findIn K (.ref C_Form) "table" = some none)
    (na_Form_determinant : PySem.W.findIn K (.ref C_Form) "determinant" = some none)
    (na_Form_last : PySem.W.findIn K (.ref C_Form) "last" = some none)
    (if_Form__init_ : PySem.W.isFn K (.ref f_Form__init_) = true)
    (if_Form_product : PySem.W.isFn K (.ref f_Form_product) = true)
    (if_Form_norm : PySem.W.isFn K (.ref f_Form_norm) = true)
    (pg_Layers : PySem.W.plainGet K C_Layers Str.empty = true) (hd_Layers : PySem.W.hasDictIn K C_Layers = true) (po_Layers : PySem.W.plainOver K C_Layers = true) (sa_Layers : PySem.W.findIn K (.ref C_Layers) "__setattr__" = some (some (.builtin "object.__setattr__"))) (mk_Layers : PySem.W.makesIn K C_Layers = true) (kp_Layers : PySem.W.keepIn K (.ref C_Layers) = true)
    (na_Layers_form : PySem.W.findIn K (.ref C_Layers) "form" = some none)
    (na_Layers_step : PySem.W.findIn K (.ref C_Layers) "step" = some none)
    (na_Layers_top : PySem.W.findIn K (.ref C_Layers) "top" = some none)
    (na_Layers_short : PySem.W.findIn K (.ref C_Layers) "short" = some none)
    (na_Layers_long : PySem.W.findIn K (.ref C_Layers) "long" = some none)
    (if_Layers__init_ : PySem.W.isFn K (.ref f_Layers__init_) = true)
    (if_Layers_rows_with : PySem.W.isFn K (.ref f_Layers_rows_with) = true)
    (pg_Room : PySem.W.plainGet K C_Room Str.empty = true) (hd_Room : PySem.W.hasDictIn K C_Room = true) (po_Room : PySem.W.plainOver K C_Room = true) (sa_Room : PySem.W.findIn K (.ref C_Room) "__setattr__" = some (some (.builtin "object.__setattr__"))) (mk_Room : PySem.W.makesIn K C_Room = true) (kp_Room : PySem.W.keepIn K (.ref C_Room) = true)
    (na_Room_form : PySem.W.findIn K (.ref C_Room) "form" = some none)
    (na_Room_base : PySem.W.findIn K (.ref C_Room) "base" = some none)
    (if_Room__init_ : PySem.W.isFn K (.ref f_Room__init_) = true)
    (if_Room_walls : PySem.W.isFn K (.ref f_Room_walls) = true)
    (if_Room_reach : PySem.W.isFn K (.ref f_Room_reach) = true)
    (if_Room_holds : PySem.W.isFn K (.ref f_Room_holds) = true) :
    ∃ fd : FuncData, (∀ (s : Shared) (v : Value), BindsTo s fd ⟨[v], []⟩ [("script", v)]) ∧ ∀ base : Heap, K.In base → base.Ns mainGlobals mg → FnOk l.prog w K mg base CX0 13 fa fd ["script"] (spLaw K) := by
  have e := hfa.symm.trans (PySem.W.mg_of X G a_law)
  cases e
  have F_dot := fun_mk (st := s_dot) l_dot c_dot k_dot
  have b_dot := F_dot.binds (ps := ["first", "second"]) fun _ _ _ _ _ _ us hl => match us, hl with | [_, _], _ => rfl
  have F_cross := fun_mk (st := s_cross) l_cross c_cross k_cross
  have b_cross := F_cross.binds (ps := ["first", "second"]) fun _ _ _ _ _ _ us hl => match us, hl with | [_, _], _ => rfl
  have F_transposed := fun_mk (st := s_transposed) l_transposed c_transposed k_transposed
  have b_transposed := F_transposed.binds (ps := ["matrix"]) fun _ _ _ _ _ _ us hl => match us, hl with | [_], _ => rfl
  have F_image := fun_mk (st := s_image) l_image c_image k_image
  have b_image := F_image.binds (ps := ["matrix", "row"]) fun _ _ _ _ _ _ us hl => match us, hl with | [_, _], _ => rfl
  have F_determinant_of := fun_mk (st := s_determinant_of) l_determinant_of c_determinant_of k_determinant_of
  have b_determinant_of := F_determinant_of.binds (ps := ["matrix"]) fun _ _ _ _ _ _ us hl => match us, hl with | [_], _ => rfl
  have F_adjugate_of := fun_mk (st := s_adjugate_of) l_adjugate_of c_adjugate_of k_adjugate_of
  have b_adjugate_of := F_adjugate_of.binds (ps := ["matrix"]) fun _ _ _ _ _ _ us hl => match us, hl with | [_], _ => rfl
  have F_is_whole := fun_mk (st := s_is_whole) l_is_whole c_is_whole k_is_whole
  have b_is_whole := F_is_whole.binds (ps := ["value"]) fun _ _ _ _ _ _ us hl => match us, hl with | [_], _ => rfl
  have F_is_within := fun_mk (st := s_is_within) l_is_within c_is_within k_is_within
  have b_is_within := F_is_within.binds (ps := ["value", "least", "greatest"]) fun _ _ _ _ _ _ us hl => match us, hl with | [_, _, _], _ => rfl
  have F_is_item := fun_mk (st := s_is_item) l_is_item c_is_item k_is_item
  have b_is_item := F_is_item.binds (ps := ["value"]) fun _ _ _ _ _ _ us hl => match us, hl with | [_], _ => rfl
  have F_is_below_zero := fun_mk (st := s_is_below_zero) l_is_below_zero c_is_below_zero k_is_below_zero
  have b_is_below_zero := F_is_below_zero.binds (ps := ["table"]) fun _ _ _ _ _ _ us hl => match us, hl with | [_], _ => rfl
  have F_check_form := fun_mk (st := s_check_form) l_check_form c_check_form k_check_form
  have b_check_form := F_check_form.binds (ps := ["table"]) fun _ _ _ _ _ _ us hl => match us, hl with | [_], _ => rfl
  have F_last_of := fun_mk (st := s_last_of) l_last_of c_last_of k_last_of
  have b_last_of := F_last_of.binds (ps := ["table"]) fun _ _ _ _ _ _ us hl => match us, hl with | [_], _ => rfl
  have F_Form__init_ := fun_mk (st := s_Form__init_) l_Form__init_ c_Form__init_ k_Form__init_
  have b_Form__init_ := F_Form__init_.binds (ps := ["self", "table"]) fun _ _ _ _ _ _ us hl => match us, hl with | [_, _], _ => rfl
  have F_Form_product := fun_mk (st := s_Form_product) l_Form_product c_Form_product k_Form_product
  have b_Form_product := F_Form_product.binds (ps := ["self", "v", "w"]) fun _ _ _ _ _ _ us hl => match us, hl with | [_, _, _], _ => rfl
  have F_Form_norm := fun_mk (st := s_Form_norm) l_Form_norm c_Form_norm k_Form_norm
  have b_Form_norm := F_Form_norm.binds (ps := ["self", "v"]) fun _ _ _ _ _ _ us hl => match us, hl with | [_, _], _ => rfl
  have F_shifted := fun_mk (st := s_shifted) l_shifted c_shifted k_shifted
  have b_shifted := F_shifted.binds (ps := ["row", "step", "times"]) fun _ _ _ _ _ _ us hl => match us, hl with | [_, _, _], _ => rfl
  have F_scaled := fun_mk (st := s_scaled) l_scaled c_scaled k_scaled
  have b_scaled := F_scaled.binds (ps := ["row", "times"]) fun _ _ _ _ _ _ us hl => match us, hl with | [_, _], _ => rfl
  have F_divided := fun_mk (st := s_divided) l_divided c_divided k_divided
  have b_divided := F_divided.binds (ps := ["first", "second"]) fun _ _ _ _ _ _ us hl => match us, hl with | [_, _], _ => rfl
  have F_check_base := fun_mk (st := s_check_base) l_check_base c_check_base k_check_base
  have b_check_base := F_check_base.binds (ps := ["form", "p"]) fun _ _ _ _ _ _ us hl => match us, hl with | [_, _], _ => rfl
  have F_law_cell := fun_mk (st := s_law_cell) l_law_cell c_law_cell k_law_cell
  have b_law_cell := F_law_cell.binds (ps := ["script", "k"]) fun _ _ _ _ _ _ us hl => match us, hl with | [_, _], _ => rfl
  have F_law_mixed := fun_mk (st := s_law_mixed) l_law_mixed c_law_mixed k_law_mixed
  have b_law_mixed := F_law_mixed.binds (ps := ["cell", "k"]) fun _ _ _ _ _ _ us hl => match us, hl with | [_, _], _ => rfl
  have F_law_digits := fun_mk (st := s_law_digits) l_law_digits c_law_digits k_law_digits
  have b_law_digits := F_law_digits.binds (ps := ["cell", "count", "many"]) fun _ _ _ _ _ _ us hl => match us, hl with | [_, _, _], _ => rfl
  have F_law_product := fun_mk (st := s_law_product) l_law_product c_law_product k_law_product
  have b_law_product := F_law_product.binds (ps := ["table", "v", "w"]) fun _ _ _ _ _ _ us hl => match us, hl with | [_, _, _], _ => rfl
  have F_law_image := fun_mk (st := s_law_image) l_law_image c_law_image k_law_image
  have b_law_image := F_law_image.binds (ps := ["matrix", "row"]) fun _ _ _ _ _ _ us hl => match us, hl with | [_, _], _ => rfl
  have F_law_units := fun_mk (st := s_law_units) l_law_units c_law_units k_law_units
  have b_law_units := F_law_units.binds (ps := []) fun _ _ _ _ _ _ us hl => match us, hl with | [], _ => rfl
  have F_law_moves := fun_mk (st := s_law_moves) l_law_moves c_law_moves k_law_moves
  have b_law_moves := F_law_moves.binds (ps := ["digits"]) fun _ _ _ _ _ _ us hl => match us, hl with | [_], _ => rfl
  have F_parted := fun_mk (st := s_parted) l_parted c_parted k_parted
  have b_parted := F_parted.binds (ps := ["rows", "line"]) fun _ _ _ _ _ _ us hl => match us, hl with | [_, _], _ => rfl
  have F_narrowed := fun_mk (st := s_narrowed) l_narrowed c_narrowed k_narrowed
  have b_narrowed := F_narrowed.binds (ps := ["rows", "line", "number"]) fun _ _ _ _ _ _ us hl => match us, hl with | [_, _, _], _ => rfl
  have F_shortened := fun_mk (st := s_shortened) l_shortened c_shortened k_shortened
  have b_shortened := F_shortened.binds (ps := ["form", "first", "second"]) fun _ _ _ _ _ _ us hl => match us, hl with | [_, _, _], _ => rfl
  have F_points_on := fun_mk (st := s_points_on) l_points_on c_points_on k_points_on
  have b_points_on := F_points_on.binds (ps := ["a", "b", "c", "d", "e", "f"]) fun _ _ _ _ _ _ us hl => match us, hl with | [_, _, _, _, _, _], _ => rfl
  have F_Layers__init_ := fun_mk (st := s_Layers__init_) l_Layers__init_ c_Layers__init_ k_Layers__init_
  have b_Layers__init_ := F_Layers__init_.binds (ps := ["self", "form", "p", "rows"]) fun _ _ _ _ _ _ us hl => match us, hl with | [_, _, _, _], _ => rfl
  have F_Layers_rows_with := fun_mk (st := s_Layers_rows_with) l_Layers_rows_with c_Layers_rows_with k_Layers_rows_with
  have b_Layers_rows_with := F_Layers_rows_with.binds (ps := ["self", "a", "n"]) fun _ _ _ _ _ _ us hl => match us, hl with | [_, _, _], _ => rfl
  have F_is_bare := fun_mk (st := s_is_bare) l_is_bare c_is_bare k_is_bare
  have b_is_bare := F_is_bare.binds (ps := ["row"]) fun _ _ _ _ _ _ us hl => match us, hl with | [_], _ => rfl
  have F_kinds := fun_mk (st := s_kinds) l_kinds c_kinds k_kinds
  have b_kinds := F_kinds.binds (ps := ["form"]) fun _ _ _ _ _ _ us hl => match us, hl with | [_], _ => rfl
  have F_is_outward := fun_mk (st := s_is_outward) l_is_outward c_is_outward k_is_outward
  have b_is_outward := F_is_outward.binds (ps := ["form", "p", "r"]) fun _ _ _ _ _ _ us hl => match us, hl with | [_, _, _], _ => rfl
  have F_layers_of_kind := fun_mk (st := s_layers_of_kind) l_layers_of_kind c_layers_of_kind k_layers_of_kind
  have b_layers_of_kind := F_layers_of_kind.binds (ps := ["form", "p", "norm"]) fun _ _ _ _ _ _ us hl => match us, hl with | [_, _, _], _ => rfl
  have F_roots_of_layer := fun_mk (st := s_roots_of_layer) l_roots_of_layer c_roots_of_layer k_roots_of_layer
  have b_roots_of_layer := F_roots_of_layer.binds (ps := ["layers", "a", "norm"]) fun _ _ _ _ _ _ us hl => match us, hl with | [_, _, _], _ => rfl
  have F_outward_roots := fun_mk (st := s_outward_roots) l_outward_roots c_outward_roots k_outward_roots
  have b_outward_roots := F_outward_roots.binds (ps := ["form", "p", "bound"]) fun _ _ _ _ _ _ us hl => match us, hl with | [_, _, _], _ => rfl
  have F_outermost := fun_mk (st := s_outermost) l_outermost c_outermost k_outermost
  have b_outermost := F_outermost.binds (ps := ["p", "roots"]) fun _ _ _ _ _ _ us hl => match us, hl with | [_, _], _ => rfl
  have F_walls_among := fun_mk (st := s_walls_among) l_walls_among c_walls_among k_walls_among
  have b_walls_among := F_walls_among.binds (ps := ["form", "p", "pairs"]) fun _ _ _ _ _ _ us hl => match us, hl with | [_, _, _], _ => rfl
  have F_check_within := fun_mk (st := s_check_within) l_check_within c_check_within k_check_within
  have b_check_within := F_check_within.binds (ps := ["value", "least", "greatest"]) fun _ _ _ _ _ _ us hl => match us, hl with | [_, _, _], _ => rfl
  have F_Room__init_ := fun_mk (st := s_Room__init_) l_Room__init_ c_Room__init_ k_Room__init_
  have b_Room__init_ := F_Room__init_.binds (ps := ["self", "form", "p"]) fun _ _ _ _ _ _ us hl => match us, hl with | [_, _, _], _ => rfl
  have F_Room_walls := fun_mk (st := s_Room_walls) l_Room_walls c_Room_walls k_Room_walls
  have b_Room_walls := F_Room_walls.binds (ps := ["self", "bound"]) fun _ _ _ _ _ _ us hl => match us, hl with | [_, _], _ => rfl
  have F_Room_reach := fun_mk (st := s_Room_reach) l_Room_reach c_Room_reach k_Room_reach
  have b_Room_reach := F_Room_reach.binds (ps := ["self", "v"]) fun _ _ _ _ _ _ us hl => match us, hl with | [_, _], _ => rfl
  have F_walls_to := fun_mk (st := s_walls_to) l_walls_to c_walls_to k_walls_to
  have b_walls_to := F_walls_to.binds (ps := ["room", "depth"]) fun _ _ _ _ _ _ us hl => match us, hl with | [_, _], _ => rfl
  have F_meeting := fun_mk (st := s_meeting) l_meeting c_meeting k_meeting
  have b_meeting := F_meeting.binds (ps := ["form", "r", "s"]) fun _ _ _ _ _ _ us hl => match us, hl with | [_, _, _], _ => rfl
  have F_neighbours_of := fun_mk (st := s_neighbours_of) l_neighbours_of c_neighbours_of k_neighbours_of
  have b_neighbours_of := F_neighbours_of.binds (ps := ["form", "walls", "r"]) fun _ _ _ _ _ _ us hl => match us, hl with | [_, _, _], _ => rfl
  have F_way_round := fun_mk (st := s_way_round) l_way_round c_way_round k_way_round
  have b_way_round := F_way_round.binds (ps := ["near", "start"]) fun _ _ _ _ _ _ us hl => match us, hl with | [_, _], _ => rfl
  have F_ring_of := fun_mk (st := s_ring_of) l_ring_of c_ring_of k_ring_of
  have b_ring_of := F_ring_of.binds (ps := ["form", "walls"]) fun _ _ _ _ _ _ us hl => match us, hl with | [_, _], _ => rfl
  have F_makes_ring := fun_mk (st := s_makes_ring) l_makes_ring c_makes_ring k_makes_ring
  have b_makes_ring := F_makes_ring.binds (ps := ["form", "walls"]) fun _ _ _ _ _ _ us hl => match us, hl with | [_, _], _ => rfl
  have F_check_depth := fun_mk (st := s_check_depth) l_check_depth c_check_depth k_check_depth
  have b_check_depth := F_check_depth.binds (ps := ["form", "walls", "depth"]) fun _ _ _ _ _ _ us hl => match us, hl with | [_, _, _], _ => rfl
  have F_is_row := fun_mk (st := s_is_row) l_is_row c_is_row k_is_row
  have b_is_row := F_is_row.binds (ps := ["value"]) fun _ _ _ _ _ _ us hl => match us, hl with | [_], _ => rfl
  have F_is_root := fun_mk (st := s_is_root) l_is_root c_is_root k_is_root
  have b_is_root := F_is_root.binds (ps := ["form", "value"]) fun _ _ _ _ _ _ us hl => match us, hl with | [_, _], _ => rfl
  have F_is_closed := fun_mk (st := s_is_closed) l_is_closed c_is_closed k_is_closed
  have b_is_closed := F_is_closed.binds (ps := ["room", "bound"]) fun _ _ _ _ _ _ us hl => match us, hl with | [_, _], _ => rfl
  have F_Room_holds := fun_mk (st := s_Room_holds) l_Room_holds c_Room_holds k_Room_holds
  have b_Room_holds := F_Room_holds.binds (ps := ["self", "v"]) fun _ _ _ _ _ _ us hl => match us, hl with | [_, _], _ => rfl
  have F_law := fun_mk (st := s_law) l_law c_law k_law
  have T : Txt K mg := { a_dot := f_dot, fd_dot := _, F_dot := F_dot, b_dot := b_dot, g_dot := PySem.W.mg_of X G a_dot, a_cross := f_cross, fd_cross := _, F_cross := F_cross, b_cross := b_cross, g_cross := PySem.W.mg_of X G a_cross, a_transposed := f_transposed, fd_transposed := _, F_transposed := F_transposed, b_transposed := b_transposed, g_transposed := PySem.W.mg_of X G a_transposed, a_image := f_image, fd_image := _, F_image := F_image, b_image := b_image, g_image := PySem.W.mg_of X G a_image, a_determinant_of := f_determinant_of, fd_determinant_of := _, F_determinant_of := F_determinant_of, b_determinant_of := b_determinant_of, g_determinant_of := PySem.W.mg_of X G a_determinant_of, a_adjugate_of := f_adjugate_of, fd_adjugate_of := _, F_adjugate_of := F_adjugate_of, b_adjugate_of := b_adjugate_of, g_adjugate_of := PySem.W.mg_of X G a_adjugate_of, a_is_whole := f_is_whole, fd_is_whole := _, F_is_whole := F_is_whole, b_is_whole := b_is_whole, g_is_whole := PySem.W.mg_of X G a_is_whole, a_is_within := f_is_within, fd_is_within := _, F_is_within := F_is_within, b_is_within := b_is_within, g_is_within := PySem.W.mg_of X G a_is_within, a_is_item := f_is_item, fd_is_item := _, F_is_item := F_is_item, b_is_item := b_is_item, g_is_item := PySem.W.mg_of X G a_is_item, a_is_below_zero := f_is_below_zero, fd_is_below_zero := _, F_is_below_zero := F_is_below_zero, b_is_below_zero := b_is_below_zero, g_is_below_zero := PySem.W.mg_of X G a_is_below_zero, a_check_form := f_check_form, fd_check_form := _, F_check_form := F_check_form, b_check_form := b_check_form, g_check_form := PySem.W.mg_of X G a_check_form, a_last_of := f_last_of, fd_last_of := _, F_last_of := F_last_of, b_last_of := b_last_of, g_last_of := PySem.W.mg_of X G a_last_of, a_Form__init_ := f_Form__init_, fd_Form__init_ := _, F_Form__init_ := F_Form__init_, b_Form__init_ := b_Form__init_, a_Form_product := f_Form_product, fd_Form_product := _, F_Form_product := F_Form_product, b_Form_product := b_Form_product, a_Form_norm := f_Form_norm, fd_Form_norm := _, F_Form_norm := F_Form_norm, b_Form_norm := b_Form_norm, a_shifted := f_shifted, fd_shifted := _, F_shifted := F_shifted, b_shifted := b_shifted, g_shifted := PySem.W.mg_of X G a_shifted, a_scaled := f_scaled, fd_scaled := _, F_scaled := F_scaled, b_scaled := b_scaled, g_scaled := PySem.W.mg_of X G a_scaled, a_divided := f_divided, fd_divided := _, F_divided := F_divided, b_divided := b_divided, g_divided := PySem.W.mg_of X G a_divided, a_check_base := f_check_base, fd_check_base := _, F_check_base := F_check_base, b_check_base := b_check_base, g_check_base := PySem.W.mg_of X G a_check_base, a_law_cell := f_law_cell, fd_law_cell := _, F_law_cell := F_law_cell, b_law_cell := b_law_cell, g_law_cell := PySem.W.mg_of X G a_law_cell, a_law_mixed := f_law_mixed, fd_law_mixed := _, F_law_mixed := F_law_mixed, b_law_mixed := b_law_mixed, g_law_mixed := PySem.W.mg_of X G a_law_mixed, a_law_digits := f_law_digits, fd_law_digits := _, F_law_digits := F_law_digits, b_law_digits := b_law_digits, g_law_digits := PySem.W.mg_of X G a_law_digits, a_law_product := f_law_product, fd_law_product := _, F_law_product := F_law_product, b_law_product := b_law_product, g_law_product := PySem.W.mg_of X G a_law_product, a_law_image := f_law_image, fd_law_image := _, F_law_image := F_law_image, b_law_image := b_law_image, g_law_image := PySem.W.mg_of X G a_law_image, a_law_units := f_law_units, fd_law_units := _, F_law_units := F_law_units, b_law_units := b_law_units, g_law_units := PySem.W.mg_of X G a_law_units, a_law_moves := f_law_moves, fd_law_moves := _, F_law_moves := F_law_moves, b_law_moves := b_law_moves, g_law_moves := PySem.W.mg_of X G a_law_moves, a_parted := f_parted, fd_parted := _, F_parted := F_parted, b_parted := b_parted, g_parted := PySem.W.mg_of X G a_parted, a_narrowed := f_narrowed, fd_narrowed := _, F_narrowed := F_narrowed, b_narrowed := b_narrowed, g_narrowed := PySem.W.mg_of X G a_narrowed, a_shortened := f_shortened, fd_shortened := _, F_shortened := F_shortened, b_shortened := b_shortened, g_shortened := PySem.W.mg_of X G a_shortened, a_points_on := f_points_on, fd_points_on := _, F_points_on := F_points_on, b_points_on := b_points_on, g_points_on := PySem.W.mg_of X G a_points_on, a_Layers__init_ := f_Layers__init_, fd_Layers__init_ := _, F_Layers__init_ := F_Layers__init_, b_Layers__init_ := b_Layers__init_, a_Layers_rows_with := f_Layers_rows_with, fd_Layers_rows_with := _, F_Layers_rows_with := F_Layers_rows_with, b_Layers_rows_with := b_Layers_rows_with, a_is_bare := f_is_bare, fd_is_bare := _, F_is_bare := F_is_bare, b_is_bare := b_is_bare, g_is_bare := PySem.W.mg_of X G a_is_bare, a_kinds := f_kinds, fd_kinds := _, F_kinds := F_kinds, b_kinds := b_kinds, g_kinds := PySem.W.mg_of X G a_kinds, a_is_outward := f_is_outward, fd_is_outward := _, F_is_outward := F_is_outward, b_is_outward := b_is_outward, g_is_outward := PySem.W.mg_of X G a_is_outward, a_layers_of_kind := f_layers_of_kind, fd_layers_of_kind := _, F_layers_of_kind := F_layers_of_kind, b_layers_of_kind := b_layers_of_kind, g_layers_of_kind := PySem.W.mg_of X G a_layers_of_kind, a_roots_of_layer := f_roots_of_layer, fd_roots_of_layer := _, F_roots_of_layer := F_roots_of_layer, b_roots_of_layer := b_roots_of_layer, g_roots_of_layer := PySem.W.mg_of X G a_roots_of_layer, a_outward_roots := f_outward_roots, fd_outward_roots := _, F_outward_roots := F_outward_roots, b_outward_roots := b_outward_roots, g_outward_roots := PySem.W.mg_of X G a_outward_roots, a_outermost := f_outermost, fd_outermost := _, F_outermost := F_outermost, b_outermost := b_outermost, g_outermost := PySem.W.mg_of X G a_outermost, a_walls_among := f_walls_among, fd_walls_among := _, F_walls_among := F_walls_among, b_walls_among := b_walls_among, g_walls_among := PySem.W.mg_of X G a_walls_among, a_check_within := f_check_within, fd_check_within := _, F_check_within := F_check_within, b_check_within := b_check_within, g_check_within := PySem.W.mg_of X G a_check_within, a_Room__init_ := f_Room__init_, fd_Room__init_ := _, F_Room__init_ := F_Room__init_, b_Room__init_ := b_Room__init_, a_Room_walls := f_Room_walls, fd_Room_walls := _, F_Room_walls := F_Room_walls, b_Room_walls := b_Room_walls, a_Room_reach := f_Room_reach, fd_Room_reach := _, F_Room_reach := F_Room_reach, b_Room_reach := b_Room_reach, a_walls_to := f_walls_to, fd_walls_to := _, F_walls_to := F_walls_to, b_walls_to := b_walls_to, g_walls_to := PySem.W.mg_of X G a_walls_to, a_meeting := f_meeting, fd_meeting := _, F_meeting := F_meeting, b_meeting := b_meeting, g_meeting := PySem.W.mg_of X G a_meeting, a_neighbours_of := f_neighbours_of, fd_neighbours_of := _, F_neighbours_of := F_neighbours_of, b_neighbours_of := b_neighbours_of, g_neighbours_of := PySem.W.mg_of X G a_neighbours_of, a_way_round := f_way_round, fd_way_round := _, F_way_round := F_way_round, b_way_round := b_way_round, g_way_round := PySem.W.mg_of X G a_way_round, a_ring_of := f_ring_of, fd_ring_of := _, F_ring_of := F_ring_of, b_ring_of := b_ring_of, g_ring_of := PySem.W.mg_of X G a_ring_of, a_makes_ring := f_makes_ring, fd_makes_ring := _, F_makes_ring := F_makes_ring, b_makes_ring := b_makes_ring, g_makes_ring := PySem.W.mg_of X G a_makes_ring, a_check_depth := f_check_depth, fd_check_depth := _, F_check_depth := F_check_depth, b_check_depth := b_check_depth, g_check_depth := PySem.W.mg_of X G a_check_depth, a_is_row := f_is_row, fd_is_row := _, F_is_row := F_is_row, b_is_row := b_is_row, g_is_row := PySem.W.mg_of X G a_is_row, a_is_root := f_is_root, fd_is_root := _, F_is_root := F_is_root, b_is_root := b_is_root, g_is_root := PySem.W.mg_of X G a_is_root, a_is_closed := f_is_closed, fd_is_closed := _, F_is_closed := F_is_closed, b_is_closed := b_is_closed, g_is_closed := PySem.W.mg_of X G a_is_closed, a_Room_holds := f_Room_holds, fd_Room_holds := _, F_Room_holds := F_Room_holds, b_Room_holds := b_Room_holds, z_isinstance := PySem.W.mg_none_of X G z_isinstance, z_bool := PySem.W.mg_none_of X G z_bool, z_int := PySem.W.mg_none_of X G z_int, z_all := PySem.W.mg_none_of X G z_all, z_abs := PySem.W.mg_none_of X G z_abs, z_len := PySem.W.mg_none_of X G z_len, z_range := PySem.W.mg_none_of X G z_range, z_tuple := PySem.W.mg_none_of X G z_tuple, z_list := PySem.W.mg_none_of X G z_list, z_sorted := PySem.W.mg_none_of X G z_sorted, z_min := PySem.W.mg_none_of X G z_min, z_any := PySem.W.mg_none_of X G z_any, C_BadForm := C_BadForm, g_BadForm := PySem.W.mg_of X G ga_BadForm, x_BadForm := x_BadForm, k_BadForm := kc_BadForm, b_BadForm := bc_BadForm, t_BadForm := tc_BadForm, h_BadForm := ic_BadForm, C_BadBase := C_BadBase, g_BadBase := PySem.W.mg_of X G ga_BadBase, x_BadBase := x_BadBase, k_BadBase := kc_BadBase, b_BadBase := bc_BadBase, t_BadBase := tc_BadBase, h_BadBase := ic_BadBase, C_BadNumber := C_BadNumber, g_BadNumber := PySem.W.mg_of X G ga_BadNumber, x_BadNumber := x_BadNumber, k_BadNumber := kc_BadNumber, b_BadNumber := bc_BadNumber, t_BadNumber := tc_BadNumber, h_BadNumber := ic_BadNumber, C_BadRow := C_BadRow, g_BadRow := PySem.W.mg_of X G ga_BadRow, x_BadRow := x_BadRow, k_BadRow := kc_BadRow, b_BadRow := bc_BadRow, t_BadRow := tc_BadRow, h_BadRow := ic_BadRow, C_TooFar := C_TooFar, g_TooFar := PySem.W.mg_of X G ga_TooFar, x_TooFar := x_TooFar, k_TooFar := kc_TooFar, b_TooFar := bc_TooFar, t_TooFar := tc_TooFar, h_TooFar := ic_TooFar, v_GREATEST_ITEM := v_GREATEST_ITEM, c_GREATEST_ITEM := PySem.W.mg_of X G cc_GREATEST_ITEM, v_LEAST_DETERMINANT := v_LEAST_DETERMINANT, c_LEAST_DETERMINANT := PySem.W.mg_of X G cc_LEAST_DETERMINANT, v_GREATEST_BOUND := v_GREATEST_BOUND, c_GREATEST_BOUND := PySem.W.mg_of X G cc_GREATEST_BOUND, a_TURNS := a_TURNS, g_TURNS := PySem.W.mg_of X G gm_TURNS, d_TURNS := kdict_turns lm_TURNS nd_TURNS, a_UNIT_ROWS := a_UNIT_ROWS, g_UNIT_ROWS := PySem.W.mg_of X G gm_UNIT_ROWS, u_UNIT_ROWS := rp_matK lm_UNIT_ROWS lm0_UNIT_ROWS lm1_UNIT_ROWS lm2_UNIT_ROWS, z_gcd := PySem.W.mg_of X G z_gcd, z_isqrt := PySem.W.mg_of X G z_isqrt, C_Form := C_Form, g_Form := PySem.W.mg_of X G gc_Form, c_Form := ⟨pg_Form, hd_Form, po_Form, sa_Form⟩, n_Form_table := na_Form_table, n_Form_determinant := na_Form_determinant, n_Form_last := na_Form_last, M_Form := ⟨mk_Form, a_Form__init_, if_Form__init_, kp_Form⟩, m_Form_product := ⟨a_Form_product, if_Form_product, k_Form_product⟩, m_Form_norm := ⟨a_Form_norm, if_Form_norm, k_Form_norm⟩, C_Layers := C_Layers, g_Layers := PySem.W.mg_of X G gc_Layers, c_Layers := ⟨pg_Layers, hd_Layers, po_Layers, sa_Layers⟩, n_Layers_form := na_Layers_form, n_Layers_step := na_Layers_step, n_Layers_top := na_Layers_top, n_Layers_short := na_Layers_short, n_Layers_long := na_Layers_long, M_Layers := ⟨mk_Layers, a_Layers__init_, if_Layers__init_, kp_Layers⟩, m_Layers_rows_with := ⟨a_Layers_rows_with, if_Layers_rows_with, k_Layers_rows_with⟩, C_Room := C_Room, g_Room := PySem.W.mg_of X G gc_Room, c_Room := ⟨pg_Room, hd_Room, po_Room, sa_Room⟩, n_Room_form := na_Room_form, n_Room_base := na_Room_base, M_Room := ⟨mk_Room, a_Room__init_, if_Room__init_, kp_Room⟩, m_Room_walls := ⟨a_Room_walls, if_Room_walls, k_Room_walls⟩, m_Room_reach := ⟨a_Room_reach, if_Room_reach, k_Room_reach⟩, m_Room_holds := ⟨a_Room_holds, if_Room_holds, k_Room_holds⟩ }
  exact ⟨PySem.W.fnOf "law" "law" (defArgs s_law) (defBody s_law) (defScope s_law) .none kV_law dc_law pm_law an_law cd_law ct_law, fun s v => .of_eq rfl, fun base _ _ => ok_law F_law T⟩
end Kx
open PySem PySem.W PyProof.Rows
set_option maxHeartbeats 0 in
theorem PySem.Challenge.cw_coneroom_k20_forms_without_roots_holds : PySem.Challenge.rw_coneroom_k20_forms_without_roots.Holds := by
  w_on; o_law; k_head; (case hw => w_witness2)
  k_fill
  refine L2.walk_of (l := PySem.Challenge.rw_coneroom_k20_forms_without_roots) (n := 63) (k := 13) (x := "script") (CX := fun w => L2.CX0) (sp := fun w => Kx.spLaw _) rfl (by decide) rfl ⟨rfl, by decide, by decide⟩ (fun w h Y => PySem.W.kIn_of Y) ?F (fun _ _ a ns hl _ hS => ⟨a, ns, rfl, hS, hl, fun _ => rfl⟩) (fun _ _ _ _ _ h => h)
  case F =>
    intro w mg fa h KX G hmg
    refine' Kx.all_mk KX G hmg ?gc_Room ?gc_Layers ?gc_Form ?a_dot ?l_dot ?c_dot ?k_dot ?a_cross ?l_cross ?c_cross ?k_cross ?a_transposed ?l_transposed ?c_transposed ?k_transposed ?a_image ?l_image ?c_image ?k_image ?a_determinant_of ?l_determinant_of ?c_determinant_of ?k_determinant_of ?a_adjugate_of ?l_adjugate_of ?c_adjugate_of ?k_adjugate_of ?a_is_whole ?l_is_whole ?c_is_whole ?k_is_whole ?a_is_within ?l_is_within ?c_is_within ?k_is_within ?a_is_item ?l_is_item ?c_is_item ?k_is_item ?a_is_below_zero ?l_is_below_zero ?c_is_below_zero ?k_is_below_zero ?a_check_form ?l_check_form ?c_check_form ?k_check_form ?a_last_of ?l_last_of ?c_last_of ?k_last_of ?a_Form__init_ ?l_Form__init_ ?c_Form__init_ ?k_Form__init_ ?a_Form_product ?l_Form_product ?c_Form_product ?k_Form_product ?a_Form_norm ?l_Form_norm ?c_Form_norm ?k_Form_norm ?a_shifted ?l_shifted ?c_shifted ?k_shifted ?a_scaled ?l_scaled ?c_scaled ?k_scaled ?a_divided ?l_divided ?c_divided ?k_divided ?a_check_base ?l_check_base ?c_check_base ?k_check_base ?a_law_cell ?l_law_cell ?c_law_cell ?k_law_cell ?a_law_mixed ?l_law_mixed ?c_law_mixed ?k_law_mixed ?a_law_digits ?l_law_digits ?c_law_digits ?k_law_digits ?a_law_product ?l_law_product ?c_law_product ?k_law_product ?a_law_image ?l_law_image ?c_law_image ?k_law_image ?a_law_units ?l_law_units ?c_law_units ?k_law_units ?a_law_moves ?l_law_moves ?c_law_moves ?k_law_moves ?a_parted ?l_parted ?c_parted ?k_parted ?a_narrowed ?l_narrowed ?c_narrowed ?k_narrowed ?a_shortened ?l_shortened ?c_shortened ?k_shortened ?a_points_on ?l_points_on ?c_points_on ?k_points_on ?a_Layers__init_ ?l_Layers__init_ ?c_Layers__init_ ?k_Layers__init_ ?a_Layers_rows_with ?l_Layers_rows_with ?c_Layers_rows_with ?k_Layers_rows_with ?a_is_bare ?l_is_bare ?c_is_bare ?k_is_bare ?a_kinds ?l_kinds ?c_kinds ?k_kinds ?a_is_outward ?l_is_outward ?c_is_outward ?k_is_outward ?a_layers_of_kind ?l_layers_of_kind ?c_layers_of_kind ?k_layers_of_kind ?a_roots_of_layer ?l_roots_of_layer ?c_roots_of_layer ?k_roots_of_layer ?a_outward_roots ?l_outward_roots ?c_outward_roots ?k_outward_roots ?a_outermost ?l_outermost ?c_outermost ?k_outermost ?a_walls_among ?l_walls_among ?c_walls_among ?k_walls_among ?a_check_within ?l_check_within ?c_check_within ?k_check_within ?a_Room__init_ ?l_Room__init_ ?c_Room__init_ ?k_Room__init_ ?a_Room_walls ?l_Room_walls ?c_Room_walls ?k_Room_walls ?a_Room_reach ?l_Room_reach ?c_Room_reach ?k_Room_reach ?a_walls_to ?l_walls_to ?c_walls_to ?k_walls_to ?a_meeting ?l_meeting ?c_meeting ?k_meeting ?a_neighbours_of ?l_neighbours_of ?c_neighbours_of ?k_neighbours_of ?a_way_round ?l_way_round ?c_way_round ?k_way_round ?a_ring_of ?l_ring_of ?c_ring_of ?k_ring_of ?a_makes_ring ?l_makes_ring ?c_makes_ring ?k_makes_ring ?a_check_depth ?l_check_depth ?c_check_depth ?k_check_depth ?a_is_row ?l_is_row ?c_is_row ?k_is_row ?a_is_root ?l_is_root ?c_is_root ?k_is_root ?a_is_closed ?l_is_closed ?c_is_closed ?k_is_closed ?a_Room_holds ?l_Room_holds ?c_Room_holds ?k_Room_holds ?a_law ?l_law ?c_law ?k_law ?z_isinstance ?z_bool ?z_int ?z_all ?z_abs ?z_len ?z_range ?z_tuple ?z_list ?z_sorted ?z_min ?z_any ?ga_BadForm ?x_BadForm ?kc_BadForm ?bc_BadForm ?tc_BadForm ?ic_BadForm ?ga_BadBase ?x_BadBase ?kc_BadBase ?bc_BadBase ?tc_BadBase ?ic_BadBase ?ga_BadNumber ?x_BadNumber ?kc_BadNumber ?bc_BadNumber ?tc_BadNumber ?ic_BadNumber ?ga_BadRow ?x_BadRow ?kc_BadRow ?bc_BadRow ?tc_BadRow ?ic_BadRow ?ga_TooFar ?x_TooFar ?kc_TooFar ?bc_TooFar ?tc_TooFar ?ic_TooFar ?cc_GREATEST_ITEM ?cc_LEAST_DETERMINANT ?cc_GREATEST_BOUND ?gm_TURNS ?lm_TURNS ?nd_TURNS ?gm_UNIT_ROWS ?lm_UNIT_ROWS ?lm0_UNIT_ROWS ?lm1_UNIT_ROWS ?lm2_UNIT_ROWS ?z_gcd ?z_isqrt ?pg_Form ?hd_Form ?po_Form ?sa_Form ?mk_Form ?kp_Form ?na_Form_table ?na_Form_determinant ?na_Form_last ?if_Form__init_ ?if_Form_product ?if_Form_norm ?pg_Layers ?hd_Layers ?po_Layers ?sa_Layers ?mk_Layers ?kp_Layers ?na_Layers_form ?na_Layers_step ?na_Layers_top ?na_Layers_short ?na_Layers_long ?if_Layers__init_ ?if_Layers_rows_with ?pg_Room ?hd_Room ?po_Room ?sa_Room ?mk_Room ?kp_Room ?na_Room_form ?na_Room_base ?if_Room__init_ ?if_Room_walls ?if_Room_reach ?if_Room_holds
    (case gc_Room => k_is)
    (case gc_Layers => k_is)
    (case gc_Form => k_is)
    (case a_dot => k_is)
    (case l_dot => k_is)
    (case c_dot => k_is)
    (case k_dot => k_is)
    (case a_cross => k_is)
    (case l_cross => k_is)
    (case c_cross => k_is)
    (case k_cross => k_is)
    (case a_transposed => k_is)
    (case l_transposed => k_is)
    (case c_transposed => k_is)
    (case k_transposed => k_is)
    (case a_image => k_is)
    (case l_image => k_is)
    (case c_image => k_is)
    (case k_image => k_is)
    (case a_determinant_of => k_is)
    (case l_determinant_of => k_is)
    (case c_determinant_of => k_is)
    (case k_determinant_of => k_is)
    (case a_adjugate_of => k_is)
    (case l_adjugate_of => k_is)
    (case c_adjugate_of => k_is)
    (case k_adjugate_of => k_is)
    (case a_is_whole => k_is)
    (case l_is_whole => k_is)
    (case c_is_whole => k_is)
    (case k_is_whole => k_is)
    (case a_is_within => k_is)
    (case l_is_within => k_is)
    (case c_is_within => k_is)
    (case k_is_within => k_is)
    (case a_is_item => k_is)
    (case l_is_item => k_is)
    (case c_is_item => k_is)
    (case k_is_item => k_is)
    (case a_is_below_zero => k_is)
    (case l_is_below_zero => k_is)
    (case c_is_below_zero => k_is)
    (case k_is_below_zero => k_is)
    (case a_check_form => k_is)
    (case l_check_form => k_is)
    (case c_check_form => k_is)
    (case k_check_form => k_is)
    (case a_last_of => k_is)
    (case l_last_of => k_is)
    (case c_last_of => k_is)
    (case k_last_of => k_is)
    (case a_Form__init_ => k_is)
    (case l_Form__init_ => k_is)
    (case c_Form__init_ => k_is)
    (case k_Form__init_ => k_is)
    (case a_Form_product => k_is)
    (case l_Form_product => k_is)
    (case c_Form_product => k_is)
    (case k_Form_product => k_is)
    (case a_Form_norm => k_is)
    (case l_Form_norm => k_is)
    (case c_Form_norm => k_is)
    (case k_Form_norm => k_is)
    (case a_shifted => k_is)
    (case l_shifted => k_is)
    (case c_shifted => k_is)
    (case k_shifted => k_is)
    (case a_scaled => k_is)
    (case l_scaled => k_is)
    (case c_scaled => k_is)
    (case k_scaled => k_is)
    (case a_divided => k_is)
    (case l_divided => k_is)
    (case c_divided => k_is)
    (case k_divided => k_is)
    (case a_check_base => k_is)
    (case l_check_base => k_is)
    (case c_check_base => k_is)
    (case k_check_base => k_is)
    (case a_law_cell => k_is)
    (case l_law_cell => k_is)
    (case c_law_cell => k_is)
    (case k_law_cell => k_is)
    (case a_law_mixed => k_is)
    (case l_law_mixed => k_is)
    (case c_law_mixed => k_is)
    (case k_law_mixed => k_is)
    (case a_law_digits => k_is)
    (case l_law_digits => k_is)
    (case c_law_digits => k_is)
    (case k_law_digits => k_is)
    (case a_law_product => k_is)
    (case l_law_product => k_is)
    (case c_law_product => k_is)
    (case k_law_product => k_is)
    (case a_law_image => k_is)
    (case l_law_image => k_is)
    (case c_law_image => k_is)
    (case k_law_image => k_is)
    (case a_law_units => k_is)
    (case l_law_units => k_is)
    (case c_law_units => k_is)
    (case k_law_units => k_is)
    (case a_law_moves => k_is)
    (case l_law_moves => k_is)
    (case c_law_moves => k_is)
    (case k_law_moves => k_is)
    (case a_parted => k_is)
    (case l_parted => k_is)
    (case c_parted => k_is)
    (case k_parted => k_is)
    (case a_narrowed => k_is)
    (case l_narrowed => k_is)
    (case c_narrowed => k_is)
    (case k_narrowed => k_is)
    (case a_shortened => k_is)
    (case l_shortened => k_is)
    (case c_shortened => k_is)
    (case k_shortened => k_is)
    (case a_points_on => k_is)
    (case l_points_on => k_is)
    (case c_points_on => k_is)
    (case k_points_on => k_is)
    (case a_Layers__init_ => k_is)
    (case l_Layers__init_ => k_is)
    (case c_Layers__init_ => k_is)
    (case k_Layers__init_ => k_is)
    (case a_Layers_rows_with => k_is)
    (case l_Layers_rows_with => k_is)
    (case c_Layers_rows_with => k_is)
    (case k_Layers_rows_with => k_is)
    (case a_is_bare => k_is)
    (case l_is_bare => k_is)
    (case c_is_bare => k_is)
    (case k_is_bare => k_is)
    (case a_kinds => k_is)
    (case l_kinds => k_is)
    (case c_kinds => k_is)
    (case k_kinds => k_is)
    (case a_is_outward => k_is)
    (case l_is_outward => k_is)
    (case c_is_outward => k_is)
    (case k_is_outward => k_is)
    (case a_layers_of_kind => k_is)
    (case l_layers_of_kind => k_is)
    (case c_layers_of_kind => k_is)
    (case k_layers_of_kind => k_is)
    (case a_roots_of_layer => k_is)
    (case l_roots_of_layer => k_is)
    (case c_roots_of_layer => k_is)
    (case k_roots_of_layer => k_is)
    (case a_outward_roots => k_is)
    (case l_outward_roots => k_is)
    (case c_outward_roots => k_is)
    (case k_outward_roots => k_is)
    (case a_outermost => k_is)
    (case l_outermost => k_is)
    (case c_outermost => k_is)
    (case k_outermost => k_is)
    (case a_walls_among => k_is)
    (case l_walls_among => k_is)
    (case c_walls_among => k_is)
    (case k_walls_among => k_is)
    (case a_check_within => k_is)
    (case l_check_within => k_is)
    (case c_check_within => k_is)
    (case k_check_within => k_is)
    (case a_Room__init_ => k_is)
    (case l_Room__init_ => k_is)
    (case c_Room__init_ => k_is)
    (case k_Room__init_ => k_is)
    (case a_Room_walls => k_is)
    (case l_Room_walls => k_is)
    (case c_Room_walls => k_is)
    (case k_Room_walls => k_is)
    (case a_Room_reach => k_is)
    (case l_Room_reach => k_is)
    (case c_Room_reach => k_is)
    (case k_Room_reach => k_is)
    (case a_walls_to => k_is)
    (case l_walls_to => k_is)
    (case c_walls_to => k_is)
    (case k_walls_to => k_is)
    (case a_meeting => k_is)
    (case l_meeting => k_is)
    (case c_meeting => k_is)
    (case k_meeting => k_is)
    (case a_neighbours_of => k_is)
    (case l_neighbours_of => k_is)
    (case c_neighbours_of => k_is)
    (case k_neighbours_of => k_is)
    (case a_way_round => k_is)
    (case l_way_round => k_is)
    (case c_way_round => k_is)
    (case k_way_round => k_is)
    (case a_ring_of => k_is)
    (case l_ring_of => k_is)
    (case c_ring_of => k_is)
    (case k_ring_of => k_is)
    (case a_makes_ring => k_is)
    (case l_makes_ring => k_is)
    (case c_makes_ring => k_is)
    (case k_makes_ring => k_is)
    (case a_check_depth => k_is)
    (case l_check_depth => k_is)
    (case c_check_depth => k_is)
    (case k_check_depth => k_is)
    (case a_is_row => k_is)
    (case l_is_row => k_is)
    (case c_is_row => k_is)
    (case k_is_row => k_is)
    (case a_is_root => k_is)
    (case l_is_root => k_is)
    (case c_is_root => k_is)
    (case k_is_root => k_is)
    (case a_is_closed => k_is)
    (case l_is_closed => k_is)
    (case c_is_closed => k_is)
    (case k_is_closed => k_is)
    (case a_Room_holds => k_is)
    (case l_Room_holds => k_is)
    (case c_Room_holds => k_is)
    (case k_Room_holds => k_is)
    (case a_law => k_is)
    (case l_law => k_is)
    (case c_law => k_is)
    (case k_law => k_is)
    (case z_isinstance => k_is)
    (case z_bool => k_is)
    (case z_int => k_is)
    (case z_all => k_is)
    (case z_abs => k_is)
    (case z_len => k_is)
    (case z_range => k_is)
    (case z_tuple => k_is)
    (case z_list => k_is)
    (case z_sorted => k_is)
    (case z_min => k_is)
    (case z_any => k_is)
    (case ga_BadForm => k_is)
    (case x_BadForm => k_exc)
    (case kc_BadForm => k_is)
    (case bc_BadForm => k_is)
    (case tc_BadForm => k_is)
    (case ic_BadForm => k_is)
    (case ga_BadBase => k_is)
    (case x_BadBase => k_exc)
    (case kc_BadBase => k_is)
    (case bc_BadBase => k_is)
    (case tc_BadBase => k_is)
    (case ic_BadBase => k_is)
    (case ga_BadNumber => k_is)
    (case x_BadNumber => k_exc)
    (case kc_BadNumber => k_is)
    (case bc_BadNumber => k_is)
    (case tc_BadNumber => k_is)
    (case ic_BadNumber => k_is)
    (case ga_BadRow => k_is)
    (case x_BadRow => k_exc)
    (case kc_BadRow => k_is)
    (case bc_BadRow => k_is)
    (case tc_BadRow => k_is)
    (case ic_BadRow => k_is)
    (case ga_TooFar => k_is)
    (case x_TooFar => k_exc)
    (case kc_TooFar => k_is)
    (case bc_TooFar => k_is)
    (case tc_TooFar => k_is)
    (case ic_TooFar => k_is)
    (case cc_GREATEST_ITEM => k_is)
    (case cc_LEAST_DETERMINANT => k_is)
    (case cc_GREATEST_BOUND => k_is)
    (case gm_TURNS => k_is)
    (case lm_TURNS => k_is)
    (case nd_TURNS => decide)
    (case gm_UNIT_ROWS => k_is)
    (case lm_UNIT_ROWS => k_is)
    (case lm0_UNIT_ROWS => k_is)
    (case lm1_UNIT_ROWS => k_is)
    (case lm2_UNIT_ROWS => k_is)
    (case z_gcd => k_is)
    (case z_isqrt => k_is)
    (case pg_Form => k_is)
    (case hd_Form => k_is)
    (case po_Form => k_is)
    (case sa_Form => k_is)
    (case mk_Form => k_is)
    (case kp_Form => k_is)
    (case na_Form_table => k_is)
    (case na_Form_determinant => k_is)
    (case na_Form_last => k_is)
    (case if_Form__init_ => k_is)
    (case if_Form_product => k_is)
    (case if_Form_norm => k_is)
    (case pg_Layers => k_is)
    (case hd_Layers => k_is)
    (case po_Layers => k_is)
    (case sa_Layers => k_is)
    (case mk_Layers => k_is)
    (case kp_Layers => k_is)
    (case na_Layers_form => k_is)
    (case na_Layers_step => k_is)
    (case na_Layers_top => k_is)
    (case na_Layers_short => k_is)
    (case na_Layers_long => k_is)
    (case if_Layers__init_ => k_is)
    (case if_Layers_rows_with => k_is)
    (case pg_Room => k_is)
    (case hd_Room => k_is)
    (case po_Room => k_is)
    (case sa_Room => k_is)
    (case mk_Room => k_is)
    (case kp_Room => k_is)
    (case na_Room_form => k_is)
    (case na_Room_base => k_is)
    (case if_Room__init_ => k_is)
    (case if_Room_walls => k_is)
    (case if_Room_reach => k_is)
    (case if_Room_holds => k_is)
