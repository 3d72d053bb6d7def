import PyProof.Rows.All
import Wide.All
import OpenK.AllK
import Wide.FinOn
import HandS.ForMost
import HandS.ForExc
import HandS.Conv
import HandS.Wide
import HandS.IsInst
import HandS.ExcIs
import HandS.Flow
import HandS.Style
import PySem.Challenge.RW_coneroom_k00_images_and_inverses
set_option Elab.async false
set_option linter.all false
set_option maxRecDepth 100000
set_option maxHeartbeats 4000000
/-! Cz: data (T) of values, what a frame knows of its names (D), judgements over data for the readings of HandS. -/
namespace Cz
open PySem PySem.Spec PyProof.Rows L2

/-! ### data: without lists -/
inductive T where
  | non | bl (b : Bool) | int (i : Int) | str (x : Str) | tup (ts : List T) | obj (C : Addr) (ns : List Str) (ts : List T)

mutual
inductive Rp (K : PySem.W.Frag) (H : Hp) : V → T → Prop
  | non : Rp K H .non .non
  | bl (b : Bool) : Rp K H (.bl b) (.bl b)
  | int (i : Int) : Rp K H (.int i) (.int i)
  | str (x : Str) : Rp K H (.str x) (.str x)
  | tup {a : Addr} {vs : List V} {ts : List T} : SqT K H a vs → Rps K H vs ts → Rp K H (.ref a) (.tup ts)
  | obj {a C dx : Addr} {fs : List (Str × V)} {ns : List Str} {ts : List T} : H a = some (.ins C dx fs) → fs.map (·.1) = ns → Rps K H (fs.map (·.2)) ts → Rp K H (.ref a) (.obj C ns ts)
inductive Rps (K : PySem.W.Frag) (H : Hp) : List V → List T → Prop
  | nil : Rps K H [] []
  | cons {v : V} {vs : List V} {t : T} {ts : List T} : Rp K H v t → Rps K H vs ts → Rps K H (v :: vs) (t :: ts)
end
/-- what never changes stays: tuples, made instances -/
structure Imm (H H' : Hp) : Prop where
  tup : ∀ a vs, Rd H a (.tup vs) → Rd H' a (.tup vs)
  ins : ∀ a C dx fs, H a = some (.ins C dx fs) → H' a = some (.ins C dx fs)
theorem Imm.sqT {K : PySem.W.Frag} {H H' : Hp} (m : Imm H H') {a : Addr} {vs : List V} (h : SqT K H a vs) : SqT K H' a vs := by
  rcases h with h | h
  · exact .inl (m.tup _ _ h)
  · exact .inr h
theorem Imm.of_same {H H' : Hp} (s : Same H H') : Imm H H' :=
  ⟨fun a vs h => by
    rcases h with h | ⟨o, h⟩
    · exact .inl (s _ _ h)
    · exact .inr ⟨o, s _ _ h⟩, fun a C dx fs h => s _ _ h⟩
/-- a list is changed -/
theorem Imm.of_lst {H : Hp} {a : Addr} {xs ys : List V} (h : H a = some (.lst xs)) : Imm H (upd H a (.lst ys)) :=
  ⟨fun b vs r => by
    rcases r with r | ⟨o, r⟩
    · exact .inl (by rw [upd_ne (ne_of r h (fun z => nomatch z))]; exact r)
    · exact .inr ⟨o, by rw [upd_ne (ne_of r h (fun z => nomatch z))]; exact r⟩,
   fun b C dx fs r => by rw [upd_ne (ne_of r h (fun z => nomatch z))]; exact r⟩
section
variable {K : PySem.W.Frag} {H H' : Hp}
mutual
theorem Rp.mono (m : Imm H H') : ∀ {v : V} {t : T}, Rp K H v t → Rp K H' v t
  | _, _, .non => .non
  | _, _, .bl b => .bl b
  | _, _, .int i => .int i
  | _, _, .str x => .str x
  | _, _, .tup h r => .tup (m.sqT h) (Rps.mono m r)
  | _, _, .obj h e r => .obj (m.ins _ _ _ _ h) e (Rps.mono m r)
theorem Rps.mono (m : Imm H H') : ∀ {vs : List V} {ts : List T}, Rps K H vs ts → Rps K H' vs ts
  | _, _, .nil => .nil
  | _, _, .cons h r => .cons (Rp.mono m h) (Rps.mono m r)
end
theorem Rps.length : ∀ {vs : List V} {ts : List T}, Rps K H vs ts → vs.length = ts.length
  | _, _, .nil => rfl
  | _, _, .cons _ r => by rw [List.length_cons, List.length_cons, Rps.length r]
theorem Rps.get : ∀ {vs : List V} {ts : List T} {i : Nat} {t : T}, Rps K H vs ts → ts[i]? = some t → ∃ v, vs[i]? = some v ∧ Rp K H v t
  | _, _, _, _, .nil, e => by simp at e
  | _, _, 0, _, .cons h _, e => by simp at e; subst e; exact ⟨_, rfl, h⟩
  | _, _, i + 1, t, .cons _ r, e => by
    obtain ⟨v, h1, h2⟩ := Rps.get (i := i) (t := t) r (by simpa using e)
    exact ⟨v, by simpa using h1, h2⟩
theorem Rps.at' : ∀ {vs : List V} {ts : List T} {i : Nat} {v : V}, Rps K H vs ts → vs[i]? = some v → ∃ t, ts[i]? = some t ∧ Rp K H v t
  | _, _, _, _, .nil, e => by simp at e
  | _, _, 0, _, .cons h _, e => by simp at e; subst e; exact ⟨_, rfl, h⟩
  | _, _, i + 1, v, .cons _ r, e => by
    obtain ⟨t, h1, h2⟩ := Rps.at' (i := i) (v := v) r (by simpa using e)
    exact ⟨t, by simpa using h1, h2⟩
theorem Rps.append : ∀ {vs ws : List V} {ts us : List T}, Rps K H vs ts → Rps K H ws us → Rps K H (vs ++ ws) (ts ++ us)
  | _, _, _, _, .nil, s => s
  | _, _, _, _, .cons h r, s => .cons h (Rps.append r s)
theorem Rps.take : ∀ {vs : List V} {ts : List T} (n : Nat), Rps K H vs ts → Rps K H (vs.take n) (ts.take n)
  | _, _, 0, _ => .nil
  | _, _, _ + 1, .nil => .nil
  | _, _, n + 1, .cons h r => .cons h (Rps.take n r)
theorem Rps.drop : ∀ {vs : List V} {ts : List T} (n : Nat), Rps K H vs ts → Rps K H (vs.drop n) (ts.drop n)
  | _, _, 0, r => r
  | _, _, _ + 1, .nil => .nil
  | _, _, n + 1, .cons _ r => Rps.drop n r
theorem Rps.set {v : V} {t : T} (h : Rp K H v t) : ∀ {vs : List V} {ts : List T} (i : Nat), Rps K H vs ts → Rps K H (vs.set i v) (ts.set i t)
  | _, _, _, .nil => .nil
  | _, _, 0, .cons _ r => .cons h r
  | _, _, i + 1, .cons q r => .cons q (Rps.set h i r)
theorem Rps.reverse : ∀ {vs : List V} {ts : List T}, Rps K H vs ts → Rps K H vs.reverse ts.reverse
  | _, _, .nil => .nil
  | _, _, .cons h r => by
    rw [List.reverse_cons, List.reverse_cons]
    exact (Rps.reverse r).append (.cons h .nil)
theorem Rps.dropLast {vs : List V} {ts : List T} (r : Rps K H vs ts) : Rps K H vs.dropLast ts.dropLast := by
  rw [List.dropLast_eq_take, List.dropLast_eq_take, r.length]
  exact r.take _
theorem Rps.ints : ∀ (ns : List Int), Rps K H (ns.map V.int) (ns.map T.int)
  | [] => .nil
  | n :: ns => .cons (.int n) (Rps.ints ns)
theorem Rps.ints_of : ∀ {vs : List V} {ns : List Int}, Rps K H vs (ns.map T.int) → vs = ns.map V.int
  | _, [], .nil => rfl
  | _, n :: ns, .cons (.int _) r => by rw [List.map_cons, Rps.ints_of r]
theorem Rps.bls_of : ∀ {vs : List V} {ns : List Bool}, Rps K H vs (ns.map T.bl) → vs = ns.map V.bl
  | _, [], .nil => rfl
  | _, n :: ns, .cons (.bl _) r => by rw [List.map_cons, Rps.bls_of r]
end

/-! ### what a frame knows of a name -/
inductive D where
  /-- nothing -/
  | no
  /-- data -/
  | t (x : T)
  /-- a list that is only read -/
  | l (xs : List T)
  /-- a list of the frame's own -/
  | own (xs : List T)
  /-- what stands at a, whatever it is -/
  | rf (a : Addr)
  /-- a list of lists that are only read -/
  | ll (xss : List (List T))

/-- a list at b that is only read -/
def LRd (K : PySem.W.Frag) (H : Hp) (ow : Addr → Prop) (b : Addr) (vs : List V) : Prop := SqL K H b vs ∧ (ow b → ∀ H', SqL K H' b vs)
inductive Lss (K : PySem.W.Frag) (H : Hp) (ow : Addr → Prop) : List V → List (List T) → Prop
  | nil : Lss K H ow [] []
  | cons {b : Addr} {ws : List V} {vs : List V} {xs : List T} {xss : List (List T)} : LRd K H ow b ws → Rps K H ws xs → Lss K H ow vs xss → Lss K H ow (.ref b :: vs) (xs :: xss)
def Sl (K : PySem.W.Frag) (H0 H : Hp) (ow : Addr → Prop) (a : Addr) : Option (Option V) → D → Prop
  | _, .no => True
  | some (some v), .t x => Rp K H v x
  | some (some v), .l xs => ∃ b vs, v = .ref b ∧ SqL K H b vs ∧ (ow b → ∀ H', SqL K H' b vs) ∧ Rps K H vs xs
  | some (some v), .own xs => v = .ref a ∧ H0 a = none ∧ ∃ vs, H a = some (.lst vs) ∧ Rps K H vs xs
  | some (some v), .rf b => v = .ref b
  | some (some v), .ll xss => ∃ b vs, v = .ref b ∧ LRd K H ow b vs ∧ Lss K H ow vs xss
  | _, _ => False
/-- b is a list of the frame's own -/
def IsOwn (Γ : List D) (A : Nat → Addr) (b : Addr) : Prop := ∃ j xs, Γ[j]? = some (.own xs) ∧ A j = b

structure EnvD (K : PySem.W.Frag) (H0 H : Hp) (σ : L2.St) (Γ : List D) (A : Nat → Addr) : Prop where
  same : Same H0 H
  len : σ.length = Γ.length
  sl : ∀ i d, Γ[i]? = some d → Sl K H0 H (IsOwn Γ A) (A i) σ[i]? d
  ne : ∀ i j xs ys, Γ[i]? = some (.own xs) → Γ[j]? = some (.own ys) → i ≠ j → A i ≠ A j

theorem sqL_of_none {K : PySem.W.Frag} {H : Hp} {b : Addr} {vs : List V} (h : SqL K H b vs) (n : H b = none) : ∀ H', SqL K H' b vs := fun H' => by
  rcases h with (h | ⟨o, h⟩) | h
  · rw [n] at h; cases h
  · rw [n] at h; cases h
  · exact .inr h
/-- from one state to a later one: all but own lists stays; own lists are own or new -/
structure Go (Γ : List D) (A : Nat → Addr) (H : Hp) (Γ' : List D) (A' : Nat → Addr) (H' : Hp) : Prop where
  kp : ∀ b o, H b = some o → ¬ IsOwn Γ A b → H' b = some o
  ow : ∀ b, IsOwn Γ' A' b → IsOwn Γ A b ∨ H b = none

section
variable {K : PySem.W.Frag} {H0 H H' : Hp} {σ : L2.St} {Γ : List D} {A : Nat → Addr}
theorem own_of_set {k i : Nat} {d : D} {ys : List T} (hd : ∀ zs, d ≠ .own zs) (h : (Γ.set k d)[i]? = some (.own ys)) : Γ[i]? = some (.own ys) := by
  by_cases e : k = i
  · subst e
    by_cases hk : k < Γ.length
    · rw [List.getElem?_set_self hk] at h
      exact absurd (Option.some.inj h) (hd ys)
    · rw [List.getElem?_eq_none (by rw [List.length_set]; omega)] at h; cases h
  · rw [List.getElem?_set_ne e] at h; exact h
theorem IsOwn.of_set {k : Nat} {d : D} {b : Addr} (hd : ∀ zs, d ≠ .own zs) : IsOwn (Γ.set k d) A b → IsOwn Γ A b := fun ⟨j, xs, h, e⟩ => ⟨j, xs, own_of_set hd h, e⟩
theorem IsOwn.of_chg {k : Nat} {xs ys : List T} {b : Addr} (h : Γ[k]? = some (.own xs)) : IsOwn (Γ.set k (.own ys)) A b → IsOwn Γ A b := fun ⟨j, zs, hj, e⟩ => by
  by_cases ej : k = j
  · subst ej; exact ⟨k, xs, h, e⟩
  · rw [List.getElem?_set_ne ej] at hj; exact ⟨j, zs, hj, e⟩
theorem LRd.mono {ow ow' : Addr → Prop} (kl : ∀ b vs, SqL K H b vs → ¬ ow b → SqL K H' b vs) (ho : ∀ b vs, SqL K H b vs → ow' b → ow b ∨ H b = none) {b : Addr} {vs : List V} (h : LRd K H ow b vs) : LRd K H' ow' b vs := by
  obtain ⟨s, w⟩ := h
  refine ⟨?_, fun z => ?_⟩
  · by_cases z : ow b
    · exact w z H'
    · exact kl b vs s z
  · rcases ho b vs s z with z | z
    · exact w z
    · exact sqL_of_none s z
theorem Lss.mono {ow ow' : Addr → Prop} (m : Imm H H') (kl : ∀ b vs, SqL K H b vs → ¬ ow b → SqL K H' b vs) (ho : ∀ b vs, SqL K H b vs → ow' b → ow b ∨ H b = none) : ∀ {vs : List V} {xss : List (List T)}, Lss K H ow vs xss → Lss K H' ow' vs xss
  | _, _, .nil => .nil
  | _, _, .cons h r t => .cons (h.mono kl ho) (r.mono m) (Lss.mono m kl ho t)
theorem Lss.length {ow : Addr → Prop} : ∀ {vs : List V} {xss : List (List T)}, Lss K H ow vs xss → vs.length = xss.length
  | _, _, .nil => rfl
  | _, _, .cons _ _ r => by rw [List.length_cons, List.length_cons, Lss.length r]
theorem Lss.at' {ow : Addr → Prop} : ∀ {vs : List V} {xss : List (List T)} {i : Nat} {v : V}, Lss K H ow vs xss → vs[i]? = some v → ∃ b ws xs, v = .ref b ∧ xss[i]? = some xs ∧ LRd K H ow b ws ∧ Rps K H ws xs
  | _, _, _, _, .nil, e => by simp at e
  | _, _, 0, _, .cons h r _, e => by
    rw [List.getElem?_cons_zero] at e
    exact ⟨_, _, _, (Option.some.inj e).symm, rfl, h, r⟩
  | _, _, i + 1, v, .cons _ _ t, e => Lss.at' (i := i) (v := v) t (by simpa using e)
/-- a slot's word in a later heap -/
theorem Sl.mono {ow ow' : Addr → Prop} {a : Addr} {o : Option (Option V)} {d : D} (m : Imm H H') (kl : ∀ b vs, SqL K H b vs → ¬ ow b → SqL K H' b vs) (ho : ∀ b vs, SqL K H b vs → ow' b → ow b ∨ H b = none)
    (hl : ∀ xs vs, d = .own xs → H a = some (.lst vs) → H' a = some (.lst vs)) (h : Sl K H0 H ow a o d) : Sl K H0 H' ow' a o d := by
  cases d with
  | no => cases o with
    | none => trivial
    | some o => cases o <;> trivial
  | t x => cases o with
    | none => exact h
    | some o => cases o with
      | none => exact h
      | some v => exact Rp.mono m h
  | l xs => cases o with
    | none => exact h
    | some o => cases o with
      | none => exact h
      | some v =>
        obtain ⟨b, vs, e, s, w, r⟩ := h
        refine ⟨b, vs, e, ?_, fun z => ?_, r.mono m⟩
        · by_cases z : ow b
          · exact w z H'
          · exact kl b vs s z
        · rcases ho b vs s z with z | z
          · exact w z
          · exact sqL_of_none s z
  | own xs => cases o with
    | none => exact h
    | some o => cases o with
      | none => exact h
      | some v => obtain ⟨e, n, vs, s, r⟩ := h; exact ⟨e, n, vs, hl xs vs rfl s, r.mono m⟩
  | rf b => cases o with
    | none => exact h
    | some o => cases o <;> exact h
  | ll xss => cases o with
    | none => exact h
    | some o => cases o with
      | none => exact h
      | some v => obtain ⟨b, vs, e, s, r⟩ := h; exact ⟨b, vs, e, s.mono kl ho, r.mono m kl ho⟩
theorem EnvD.mono (E : EnvD K H0 H σ Γ A) (s : Same H H') : EnvD K H0 H' σ Γ A :=
  ⟨E.same.trans s, E.len, fun i d h => (E.sl i d h).mono (Imm.of_same s) (fun _ _ q _ => s.seq q) (fun _ _ _ z => .inl z) (fun _ _ _ q => s _ _ q), E.ne⟩
theorem EnvD.tv {i : Nat} {x : T} (E : EnvD K H0 H σ Γ A) (h : Γ[i]? = some (.t x)) : ∃ v, σ[i]? = some (some v) ∧ Rp K H v x := by
  have q := E.sl i _ h
  cases e : σ[i]? with
  | none => rw [e] at q; exact q.elim
  | some o => cases o with
    | none => rw [e] at q; exact q.elim
    | some v => rw [e] at q; exact ⟨v, rfl, q⟩
theorem EnvD.ow {i : Nat} {xs : List T} (E : EnvD K H0 H σ Γ A) (h : Γ[i]? = some (.own xs)) : σ[i]? = some (some (.ref (A i))) ∧ H0 (A i) = none ∧ ∃ vs, H (A i) = some (.lst vs) ∧ Rps K H vs xs := by
  have q := E.sl i _ h
  cases e : σ[i]? with
  | none => rw [e] at q; exact q.elim
  | some o => cases o with
    | none => rw [e] at q; exact q.elim
    | some v =>
      rw [e] at q
      obtain ⟨e1, n, vs, s, r⟩ := q
      rw [e1]
      exact ⟨rfl, n, vs, s, r⟩
theorem EnvD.rv {i : Nat} {a : Addr} (E : EnvD K H0 H σ Γ A) (h : Γ[i]? = some (.rf a)) : σ[i]? = some (some (.ref a)) := by
  have q := E.sl i _ h
  cases e : σ[i]? with
  | none => rw [e] at q; exact q.elim
  | some o => cases o with
    | none => rw [e] at q; exact q.elim
    | some v => rw [e] at q; exact congrArg (fun z => some (some z)) q
theorem EnvD.own_lst (E : EnvD K H0 H σ Γ A) {b : Addr} (h : IsOwn Γ A b) : H0 b = none ∧ ∃ vs, H b = some (.lst vs) := by
  obtain ⟨j, xs, h, e⟩ := h
  obtain ⟨_, n, vs, s, _⟩ := E.ow h
  rw [e] at s n
  exact ⟨n, vs, s⟩
/-- a list to be read -/
def IsL : D → List T → Prop
  | .l xs, ys => xs = ys
  | .own xs, ys => xs = ys
  | _, _ => False
theorem EnvD.lv {i : Nat} {d : D} {xs : List T} (E : EnvD K H0 H σ Γ A) (h : Γ[i]? = some d) (hd : IsL d xs) : ∃ b vs, σ[i]? = some (some (.ref b)) ∧ SqL K H b vs ∧ Rps K H vs xs := by
  cases d with
  | no => exact hd.elim
  | t x => exact hd.elim
  | rf b => exact hd.elim
  | ll b => exact hd.elim
  | l ys =>
    have q := E.sl i _ h
    cases hd
    cases e : σ[i]? with
    | none => rw [e] at q; exact q.elim
    | some o => cases o with
      | none => rw [e] at q; exact q.elim
      | some v =>
        rw [e] at q
        obtain ⟨b, vs, e1, s, _, r⟩ := q
        rw [e1]
        exact ⟨b, vs, rfl, s, r⟩
  | own ys =>
    cases hd
    obtain ⟨e, _, vs, s, r⟩ := E.ow h
    exact ⟨_, vs, e, .of s, r⟩
/-- a slot is given another word, that is no own list -/
theorem EnvD.put (E : EnvD K H0 H σ Γ A) {k : Nat} {o : Option V} {d : D} (hd : ∀ zs, d ≠ .own zs) (h : Sl K H0 H (IsOwn (Γ.set k d) A) (A k) (some o) d) : EnvD K H0 H (σ.set k o) (Γ.set k d) A := by
  refine ⟨E.same, by rw [List.length_set, List.length_set, E.len], fun i d' hi => ?_, fun i j xs ys hi hj n => E.ne i j xs ys (own_of_set hd hi) (own_of_set hd hj) n⟩
  by_cases e : k = i
  · subst e
    by_cases hk : k < Γ.length
    · rw [List.getElem?_set_self hk] at hi
      cases hi
      rw [List.getElem?_set_self (by rw [E.len]; exact hk)]
      exact h
    · rw [List.getElem?_eq_none (by rw [List.length_set]; omega)] at hi
      cases hi
  · rw [List.getElem?_set_ne e] at hi
    rw [List.getElem?_set_ne e]
    exact (E.sl i d' hi).mono (Imm.of_same (Same.refl H)) (fun _ _ q _ => q) (fun _ _ _ z => .inl (z.of_set hd)) (fun _ _ _ q => q)
/-- forget a slot -/
theorem EnvD.wipe1 (E : EnvD K H0 H σ Γ A) (k : Nat) : EnvD K H0 H (σ.set k none) (Γ.set k .no) A := E.put (fun _ z => nomatch z) True.intro
def wipeD (Γ : List D) : List Nat → List D
  | [] => Γ
  | k :: ks => (wipeD Γ ks).set k .no
theorem EnvD.wipe (E : EnvD K H0 H σ Γ A) : ∀ ks : List Nat, EnvD K H0 H (wipe σ ks) (wipeD Γ ks) A
  | [] => E
  | k :: ks => (EnvD.wipe E ks).wipe1 k
/-- a slot is given data -/
theorem EnvD.setT (E : EnvD K H0 H σ Γ A) {k : Nat} {v : V} {x : T} (h : Rp K H v x) : EnvD K H0 H (σ.set k (some v)) (Γ.set k (.t x)) A := E.put (fun _ z => nomatch z) h
/-- an own list is only read from here on -/
theorem EnvD.freeze (E : EnvD K H0 H σ Γ A) {k : Nat} {xs : List T} (h : Γ[k]? = some (.own xs)) : EnvD K H0 H σ (Γ.set k (.l xs)) A := by
  obtain ⟨e, n, vs, s, r⟩ := E.ow h
  have q := E.put (k := k) (o := some (.ref (A k))) (d := .l xs) (fun _ z => nomatch z) ⟨A k, vs, rfl, .of s, fun ⟨j, ys, hj, ej⟩ => by
    by_cases z : k = j
    · subst z
      rw [List.getElem?_set_self (List.getElem?_eq_some_iff.mp h).1] at hj
      cases hj
    · rw [List.getElem?_set_ne z] at hj
      exact absurd ej.symm (E.ne k j xs ys h hj z), r⟩
  have z : σ.set k (some (.ref (A k))) = σ := by
    apply List.ext_getElem?
    intro j
    by_cases z : k = j
    · subst z
      rw [List.getElem?_set_self (List.getElem?_eq_some_iff.mp e).1, e]
    · rw [List.getElem?_set_ne z]
  rw [z] at q
  exact q
/-- a slot is given a new list -/
theorem EnvD.setL {H1 : Hp} (E : EnvD K H0 H σ Γ A) (s : Same H H1) {k : Nat} {p : Addr} {vs : List V} {xs : List T} (hp : H p = none) (h1 : H1 p = some (.lst vs)) (r : Rps K H1 vs xs) :
    EnvD K H0 H1 (σ.set k (some (.ref p))) (Γ.set k (.own xs)) (fun i => if i = k then p else A i) := by
  have hn : ∀ i ys, Γ[i]? = some (.own ys) → A i ≠ p := fun i ys h z => by
    obtain ⟨_, _, vs, q, _⟩ := E.ow h
    rw [z, hp] at q
    cases q
  have ow' : ∀ b, IsOwn (Γ.set k (.own xs)) (fun i => if i = k then p else A i) b → IsOwn Γ A b ∨ H b = none := fun b ⟨j, ys, hj, e⟩ => by
    by_cases ej : j = k
    · have e' : (if j = k then p else A j) = b := e
      rw [if_pos ej] at e'
      exact .inr (e' ▸ hp)
    · have e' : (if j = k then p else A j) = b := e
      rw [if_neg ej] at e'
      rw [List.getElem?_set_ne (fun z => ej z.symm)] at hj
      exact .inl ⟨j, ys, hj, e'⟩
  refine ⟨E.same.trans s, by rw [List.length_set, List.length_set, E.len], fun i d hi => ?_, fun i j ys zs hi hj n => ?_⟩
  · by_cases e : k = i
    · subst e
      by_cases hk : k < Γ.length
      · rw [List.getElem?_set_self hk] at hi
        cases hi
        rw [List.getElem?_set_self (by rw [E.len]; exact hk), if_pos rfl]
        exact ⟨rfl, E.same.free hp, vs, h1, r⟩
      · rw [List.getElem?_eq_none (by rw [List.length_set]; omega)] at hi
        cases hi
    · rw [List.getElem?_set_ne e] at hi
      rw [List.getElem?_set_ne e, if_neg (fun z => e z.symm)]
      exact (E.sl i d hi).mono (Imm.of_same s) (fun _ _ q _ => s.seq q) (fun b _ _ z => ow' b z) (fun _ _ _ q => s _ _ q)
  · have f : ∀ {i : Nat} {ys : List T}, i ≠ k → (Γ.set k (.own xs))[i]? = some (.own ys) → Γ[i]? = some (.own ys) := fun {i ys} e h => by
      rw [List.getElem?_set_ne (fun z => e z.symm)] at h
      exact h
    show (if i = k then p else A i) ≠ (if j = k then p else A j)
    by_cases ei : i = k
    · rw [if_pos ei, if_neg (fun z => n (ei.trans z.symm))]
      exact (hn j zs (f (fun z => n (ei.trans z.symm)) hj)).symm
    · rw [if_neg ei]
      by_cases ej : j = k
      · rw [if_pos ej]
        exact hn i ys (f ei hi)
      · rw [if_neg ej]
        exact E.ne i j ys zs (f ei hi) (f ej hj) n
/-- a list of the frame's own is changed -/
theorem EnvD.chg (E : EnvD K H0 H σ Γ A) {k : Nat} {xs ys : List T} {ws : List V} (h : Γ[k]? = some (.own xs)) (r : Rps K H ws ys) : EnvD K H0 (upd H (A k) (.lst ws)) σ (Γ.set k (.own ys)) A := by
  obtain ⟨e1, n1, vs, s1, r1⟩ := E.ow h
  have m : Imm H (upd H (A k) (.lst ws)) := Imm.of_lst s1
  have kl : k < Γ.length := (List.getElem?_eq_some_iff.mp h).1
  refine ⟨fun b o q => ?_, by rw [List.length_set, E.len], fun i d hi => ?_, fun i j us zs hi hj n => ?_⟩
  · rw [upd_ne (ne_of_none q n1)]
    exact E.same b o q
  · by_cases e : k = i
    · subst e
      rw [List.getElem?_set_self kl] at hi
      cases hi
      rw [e1]
      exact ⟨rfl, n1, ws, upd_same, r.mono m⟩
    · rw [List.getElem?_set_ne e] at hi
      refine (E.sl i d hi).mono m (fun b us q z => ?_) (fun b _ _ z => .inl (z.of_chg h)) fun us vs z q => ?_
      · have nb : b ≠ A k := fun z' => z ⟨k, xs, h, z'.symm⟩
        rcases q with (q | ⟨o, q⟩) | q
        · exact .inl (.inl (by rw [upd_ne nb]; exact q))
        · exact .inl (.inr ⟨o, by rw [upd_ne nb]; exact q⟩)
        · exact .inr q
      · subst z
        rw [upd_ne (E.ne i k us xs hi h (fun z => e z.symm))]
        exact q
  · have f : ∀ {i : Nat} {us : List T}, (Γ.set k (.own ys))[i]? = some (.own us) → ∃ us', Γ[i]? = some (.own us') := fun {i us} q => by
      by_cases e : k = i
      · subst e; exact ⟨_, h⟩
      · rw [List.getElem?_set_ne e] at q; exact ⟨_, q⟩
    obtain ⟨u1, q1⟩ := f hi
    obtain ⟨u2, q2⟩ := f hj
    exact E.ne i j u1 u2 q1 q2 n

theorem Go.trans {Γ1 Γ2 : List D} {A1 A2 : Nat → Addr} {H1 H2 : Hp} (a : Go Γ A H Γ1 A1 H1) (b : Go Γ1 A1 H1 Γ2 A2 H2) : Go Γ A H Γ2 A2 H2 := by
  refine ⟨fun c o e n => b.kp c o (a.kp c o e n) fun z => ?_, fun c z => ?_⟩
  · rcases a.ow c z with q | q
    · exact n q
    · rw [e] at q; cases q
  · rcases b.ow c z with q | q
    · exact a.ow c q
    · by_cases n : IsOwn Γ A c
      · exact .inl n
      · cases e : H c with
        | none => exact .inr rfl
        | some o => rw [a.kp c o e n] at q; cases q
theorem Go.of_same (s : Same H H') : Go Γ A H Γ A H' := ⟨fun b o e _ => s b o e, fun b z => .inl z⟩
theorem Go.same_then {Γ2 : List D} {A2 : Nat → Addr} {H1 H2 : Hp} (s : Same H H1) (b : Go Γ A H1 Γ2 A2 H2) : Go Γ A H Γ2 A2 H2 := (Go.of_same s).trans b
theorem Go.put {k : Nat} {d : D} (hd : ∀ zs, d ≠ .own zs) : Go Γ A H (Γ.set k d) A H := ⟨fun b o e _ => e, fun b z => .inl (z.of_set hd)⟩
theorem Go.setT {k : Nat} {x : T} : Go Γ A H (Γ.set k (.t x)) A H := Go.put fun _ z => nomatch z
theorem Go.setL {k : Nat} {p : Addr} {xs : List T} {H1 : Hp} (s : Same H H1) (hp : H p = none) : Go Γ A H (Γ.set k (.own xs)) (fun i => if i = k then p else A i) H1 := by
  refine ⟨fun b o e _ => s b o e, fun b hb => ?_⟩
  obtain ⟨j, ys, h, e⟩ := hb
  have e' : (if j = k then p else A j) = b := e
  by_cases ej : j = k
  · rw [if_pos ej] at e'
    exact .inr (e' ▸ hp)
  · rw [if_neg ej] at e'
    rw [List.getElem?_set_ne (fun z => ej z.symm)] at h
    exact .inl ⟨j, ys, h, e'⟩
theorem Go.chg {k : Nat} {xs ys : List T} {o : HO} (h : Γ[k]? = some (.own xs)) : Go Γ A H (Γ.set k (.own ys)) A (upd H (A k) o) := by
  refine ⟨fun b o e n => ?_, fun b z => .inl (z.of_chg h)⟩
  rw [upd_ne (fun z => n ⟨k, xs, h, z.symm⟩)]
  exact e
theorem Go.imm {Γ' : List D} {A' : Nat → Addr} (g : Go Γ A H Γ' A' H') (E : EnvD K H0 H σ Γ A) : Imm H H' := by
  have f : ∀ b o, H b = some o → (∀ xs, o ≠ .lst xs) → H' b = some o := fun b o e n => g.kp b o e fun z => by
    obtain ⟨_, ws, w⟩ := E.own_lst z
    rw [e] at w
    exact n ws (Option.some.inj w)
  exact ⟨fun a vs h => by
    rcases h with h | ⟨o, h⟩
    · exact .inl (f _ _ h fun _ z => nomatch z)
    · exact .inr ⟨o, f _ _ h fun _ z => nomatch z⟩, fun a C dx fs h => f _ _ h fun _ z => nomatch z⟩
theorem Go.sqT {Γ' : List D} {A' : Nat → Addr} (g : Go Γ A H Γ' A' H') (E : EnvD K H0 H σ Γ A) {b : Addr} {vs : List V} (h : SqT K H b vs) : SqT K H' b vs := (g.imm E).sqT h
theorem Go.sqL {Γ' : List D} {A' : Nat → Addr} (g : Go Γ A H Γ' A' H') {b : Addr} {vs : List V} (h : SqL K H b vs) (n : IsOwn Γ A b → ∀ H', SqL K H' b vs) : SqL K H' b vs := by
  by_cases z : IsOwn Γ A b
  · exact n z H'
  · rcases h with (h | ⟨o, h⟩) | h
    · exact .inl (.inl (g.kp _ _ h z))
    · exact .inl (.inr ⟨o, g.kp _ _ h z⟩)
    · exact .inr h
end
end Cz

namespace Cz
open PySem PySem.Spec PyProof.Rows L2

/-! ### arguments and results -/
def Arg (K : PySem.W.Frag) (H : Hp) : V → D → Prop
  | v, .t x => Rp K H v x
  | v, .l xs => ∃ b vs, v = .ref b ∧ SqL K H b vs ∧ Rps K H vs xs
  | _, _ => False
inductive Args (K : PySem.W.Frag) (H : Hp) : List V → List D → Prop
  | nil : Args K H [] []
  | cons {v : V} {vs : List V} {d : D} {ds : List D} : Arg K H v d → Args K H vs ds → Args K H (v :: vs) (d :: ds)
def Res (K : PySem.W.Frag) (H H' : Hp) : V → D → Prop
  | v, .t x => Rp K H' v x
  | v, .l xs => ∃ p vs, v = .ref p ∧ H p = none ∧ H' p = some (.lst vs) ∧ Rps K H' vs xs
  | v, .ll xss => ∃ x xs a w p vs, xss = [[x], xs] ∧ v = .ref a ∧ SqT K H' a [w, .ref p] ∧ H p = none ∧ H' p = some (.lst vs) ∧ Rps K H' vs xs ∧ Rp K H' w x
  | _, _ => False
theorem Arg.mono {K : PySem.W.Frag} {H H' : Hp} (s : Same H H') {v : V} {d : D} (h : Arg K H v d) : Arg K H' v d := by
  cases d with
  | t x => exact Rp.mono (Imm.of_same s) h
  | l xs => obtain ⟨b, vs, e, q, r⟩ := h; exact ⟨b, vs, e, s.seq q, r.mono (Imm.of_same s)⟩
  | no => exact h
  | own _ => exact h
  | rf _ => exact h
  | ll _ => exact h
theorem Args.mono {K : PySem.W.Frag} {H H' : Hp} (s : Same H H') : ∀ {vs : List V} {ds : List D}, Args K H vs ds → Args K H' vs ds
  | _, _, .nil => .nil
  | _, _, .cons h r => .cons (h.mono s) (Args.mono s r)
theorem Args.length {K : PySem.W.Frag} {H : Hp} : ∀ {vs : List V} {ds : List D}, Args K H vs ds → vs.length = ds.length
  | _, _, .nil => rfl
  | _, _, .cons _ r => by rw [List.length_cons, List.length_cons, Args.length r]
theorem Args.append {K : PySem.W.Frag} {H : Hp} : ∀ {vs ws : List V} {ds es : List D}, Args K H vs ds → Args K H ws es → Args K H (vs ++ ws) (ds ++ es)
  | _, _, _, _, .nil, s => s
  | _, _, _, _, .cons h r, s => .cons h (Args.append r s)

/-! ### judgements -/
section
variable (K : PySem.W.Frag)
/-- an expression gives the data x, and changes nothing -/
def Ev (t : TE) (Γ : List D) (x : T) : Prop := ∀ (H0 : Hp) (A : Nat → Addr) (σ : L2.St) (H : Hp) (Q : VK), EnvD K H0 H σ Γ A → (∀ v H', Same H H' → Rp K H' v x → Q v H') → t σ H Q
/-- .. a list to be read -/
def EvL (t : TE) (Γ : List D) (xs : List T) : Prop := ∀ (H0 : Hp) (A : Nat → Addr) (σ : L2.St) (H : Hp) (Q : VK), EnvD K H0 H σ Γ A → (∀ b vs H', Same H H' → SqL K H' b vs → Rps K H' vs xs → Q (.ref b) H') → t σ H Q
/-- .. a new list -/
def EvF (t : TE) (Γ : List D) (xs : List T) : Prop := ∀ (H0 : Hp) (A : Nat → Addr) (σ : L2.St) (H : Hp) (Q : VK), EnvD K H0 H σ Γ A → (∀ p vs H', H p = none → Same H H' → H' p = some (.lst vs) → Rps K H' vs xs → Q (.ref p) H') → t σ H Q
/-- a test -/
def EvB (t : TT) (Γ : List D) (b : Bool) : Prop := ∀ (H0 : Hp) (A : Nat → Addr) (σ : L2.St) (H : Hp) (Q : Bool → Hp → Prop), EnvD K H0 H σ Γ A → (∀ H', Same H H' → Q b H') → t σ H Q
/-- arguments -/
def EvA (t : TA) (Γ : List D) (ds : List D) : Prop := ∀ (H0 : Hp) (A : Nat → Addr) (σ : L2.St) (H : Hp) (Q : List V → Hp → Prop), EnvD K H0 H σ Γ A → (∀ vs H', Same H H' → Args K H' vs ds → Q vs H') → t σ H Q
/-- an expression that raises the class at C -/
def EvE (W : WX) (t : TE) (Γ : List D) (C : Addr) : Prop := ∀ (H0 : Hp) (A : Nat → Addr) (σ : L2.St) (H : Hp) (Q : VK), EnvD K H0 H σ Γ A → (∀ H', Same H H' → W (.ref C) none σ H') → t σ H Q
/-- a target is given data -/
def Gd (g : TG) (Γ : List D) (x : T) (Γ' : List D) : Prop := ∀ (H0 : Hp) (A : Nat → Addr) (σ : L2.St) (H : Hp) (v : V) (Q : L2.St → Hp → Prop), EnvD K H0 H σ Γ A → Rp K H v x → (∀ σ', EnvD K H0 H σ' Γ' A → Go Γ A H Γ' A H → Q σ' H) → g v σ H Q
def Gds (g : TGs) (Γ : List D) (xs : List T) (Γ' : List D) : Prop := ∀ (H0 : Hp) (A : Nat → Addr) (σ : L2.St) (H : Hp) (vs : List V) (Q : L2.St → Hp → Prop), EnvD K H0 H σ Γ A → Rps K H vs xs → (∀ σ', EnvD K H0 H σ' Γ' A → Go Γ A H Γ' A H → Q σ' H) → g vs σ H Q
/-- what is wanted behind a statement -/
structure Po where
  nx : List D → Prop
  rt : D → Prop
  bk : List D → Prop := fun _ => False
  ct : List D → Prop := fun _ => False
  er : Addr → List D → Prop := fun _ _ => False
structure Meet (W : WX) (H0 : Hp) (Γ : List D) (A : Nat → Addr) (H : Hp) (P : Po) (E : Ends) : Prop where
  nx : ∀ Γ' A' σ H', P.nx Γ' → EnvD K H0 H' σ Γ' A' → Go Γ A H Γ' A' H' → E.nx σ H'
  rt : ∀ r v H', P.rt r → Res K H0 H' v r → Same H0 H' → E.rt v H'
  bk : ∀ Γ' A' σ H', P.bk Γ' → EnvD K H0 H' σ Γ' A' → Go Γ A H Γ' A' H' → E.bk σ H'
  ct : ∀ Γ' A' σ H', P.ct Γ' → EnvD K H0 H' σ Γ' A' → Go Γ A H Γ' A' H' → E.ct σ H'
  er : ∀ C Γ' A' σ H', P.er C Γ' → EnvD K H0 H' σ Γ' A' → Go Γ A H Γ' A' H' → W (.ref C) none σ H'
def Sv (W : WX) (t : TS) (Γ : List D) (P : Po) : Prop := ∀ (H0 : Hp) (A : Nat → Addr) (σ : L2.St) (H : Hp) (E : Ends), EnvD K H0 H σ Γ A → Meet K W H0 Γ A H P E → t E σ H
end

section
variable {K : PySem.W.Frag} {Γ : List D} {W : WX}
/-- from a state a little later: values were made -/
theorem Meet.later {H0 H H1 : Hp} {A : Nat → Addr} {P : Po} {E : Ends} (M : Meet K W H0 Γ A H P E) (s : Same H H1) : Meet K W H0 Γ A H1 P E :=
  ⟨fun G B σ H' p e g => M.nx G B σ H' p e (g.same_then s), M.rt, fun G B σ H' p e g => M.bk G B σ H' p e (g.same_then s), fun G B σ H' p e g => M.ct G B σ H' p e (g.same_then s), fun C G B σ H' p e g => M.er C G B σ H' p e (g.same_then s)⟩
theorem Meet.after {H0 H H1 : Hp} {A A1 : Nat → Addr} {Γ1 : List D} {P : Po} {E : Ends} (M : Meet K W H0 Γ A H P E) (s : Go Γ A H Γ1 A1 H1) : Meet K W H0 Γ1 A1 H1 P E :=
  ⟨fun G B σ H' p e g => M.nx G B σ H' p e (s.trans g), M.rt, fun G B σ H' p e g => M.bk G B σ H' p e (s.trans g), fun G B σ H' p e g => M.ct G B σ H' p e (s.trans g), fun C G B σ H' p e g => M.er C G B σ H' p e (s.trans g)⟩

/-! ### names and constants -/
theorem ev_var {i : Nat} {x : T} (h : Γ[i]? = some (.t x)) : Ev K (tVar i) Γ x := fun H0 A σ H Q E q => by
  obtain ⟨v, e, r⟩ := E.tv h
  exact ⟨v, e, q v H (Same.refl H) r⟩
theorem evl_var {i : Nat} {d : D} {xs : List T} (h : Γ[i]? = some d) (hd : IsL d xs) : EvL K (tVar i) Γ xs := fun H0 A σ H Q E q => by
  obtain ⟨b, vs, e, s, r⟩ := E.lv h hd
  exact ⟨.ref b, e, q b vs H (Same.refl H) s r⟩
theorem ev_int {i : Int} : Ev K (tC (.int i)) Γ (.int i) := fun H0 A σ H Q E q => q _ H (Same.refl H) (.int i)
theorem ev_bl {b : Bool} : Ev K (tC (.bl b)) Γ (.bl b) := fun H0 A σ H Q E q => q _ H (Same.refl H) (.bl b)
theorem ev_non : Ev K (tC .non) Γ .non := fun H0 A σ H Q E q => q _ H (Same.refl H) .non
theorem ev_str {x : Str} : Ev K (tC (.str x)) Γ (.str x) := fun H0 A σ H Q E q => q _ H (Same.refl H) (.str x)
/-- a tuple of the module's -/
theorem ev_kt {a : Addr} {vs : List V} {ts : List T} (h : ∀ H, SqT K H a vs) (r : ∀ H, Rps K H vs ts) : Ev K (tC (.ref a)) Γ (.tup ts) := fun H0 A σ H Q E q => q _ H (Same.refl H) (.tup (h H) (r H))
theorem ev_eq {t : TE} {x y : T} (h : Ev K t Γ x) (e : x = y) : Ev K t Γ y := e ▸ h
theorem evf_eq {t : TE} {x y : List T} (h : EvF K t Γ x) (e : x = y) : EvF K t Γ y := e ▸ h
theorem evl_eq {t : TE} {x y : List T} (h : EvL K t Γ x) (e : x = y) : EvL K t Γ y := e ▸ h
theorem evb_eq {t : TT} {x y : Bool} (h : EvB K t Γ x) (e : x = y) : EvB K t Γ y := e ▸ h
/-- a list to be read, by its slot -/
def listAt (Γ : List D) (i : Nat) : Option (List T) := match Γ[i]? with
  | some (.l xs) => some xs
  | some (.own xs) => some xs
  | _ => none
theorem evl_v {i : Nat} {xs : List T} (h : listAt Γ i = some xs) : EvL K (tVar i) Γ xs := by
  unfold listAt at h
  split at h
  · rename_i ys e
    cases h
    exact evl_var e rfl
  · rename_i ys e
    cases h
    exact evl_var e rfl
  · cases h
theorem evl_f {t : TE} {xs : List T} (h : EvF K t Γ xs) : EvL K t Γ xs := fun H0 A σ H Q E q => h H0 A σ H Q E fun p vs H' _ s e r => q p vs H' s (.of e) r

/-! ### two operands -/
theorem ev_op {r : R2} {ta tb : TE} {x y z : T} (ha : Ev K ta Γ x) (hb : Ev K tb Γ y)
    (h : ∀ v w H (Q : VK), Rp K H v x → Rp K H w y → (∀ u H', Same H H' → Rp K H' u z → Q u H') → r v w H Q) : Ev K (tOp r ta tb) Γ z := fun H0 A σ H Q E q =>
  ha H0 A σ H _ E fun v H1 s1 r1 => hb H0 A σ H1 _ (E.mono s1) fun w H2 s2 r2 => h v w H2 Q (Rp.mono (Imm.of_same s2) r1) r2 fun u H3 s3 r3 => q u H3 (s1.trans (s2.trans s3)) r3
theorem ev_rI0 {g : Int → Int → V} {f : Int → Int → T} {ta tb : TE} {i j : Int} (hg : ∀ H i j, Rp K H (g i j) (f i j)) (ha : Ev K ta Γ (.int i)) (hb : Ev K tb Γ (.int j)) : Ev K (tOp (rI0 g) ta tb) Γ (f i j) :=
  ev_op ha hb fun v w H Q r1 r2 q => by
    cases r1
    cases r2
    exact ⟨i, j, rfl, rfl, q _ H (Same.refl H) (hg H i j)⟩
theorem ev_rI {C : Int → Int → Prop} {g : Int → Int → V} {f : Int → Int → T} {ta tb : TE} {i j : Int} (hg : ∀ H i j, Rp K H (g i j) (f i j)) (hC : C i j) (ha : Ev K ta Γ (.int i)) (hb : Ev K tb Γ (.int j)) : Ev K (tOp (rI C g) ta tb) Γ (f i j) :=
  ev_op ha hb fun v w H Q r1 r2 q => by
    cases r1
    cases r2
    exact ⟨i, j, rfl, rfl, hC, q _ H (Same.refl H) (hg H i j)⟩
variable {ta tb : TE} {i j : Int}
theorem ev_add (ha : Ev K ta Γ (.int i)) (hb : Ev K tb Γ (.int j)) : Ev K (tOp (rI0 fun i j => .int (i + j)) ta tb) Γ (.int (i + j)) := ev_rI0 (f := fun i j => .int (i + j)) (fun _ _ _ => .int _) ha hb
theorem ev_sub (ha : Ev K ta Γ (.int i)) (hb : Ev K tb Γ (.int j)) : Ev K (tOp (rI0 fun i j => .int (i - j)) ta tb) Γ (.int (i - j)) := ev_rI0 (f := fun i j => .int (i - j)) (fun _ _ _ => .int _) ha hb
/-- |x| < 2 ^ n -/
def Sm (n : Nat) (x : Int) : Prop := x.natAbs < 2 ^ n
theorem Sm.mono {n m : Nat} {x : Int} (h : Sm n x) (k : n ≤ m) : Sm m x := Nat.lt_of_lt_of_le h (Nat.pow_le_pow_right (by decide) k)
theorem Sm.add {n m : Nat} {x y : Int} (h : Sm n x) (k : Sm m y) : Sm (max n m + 1) (x + y) := by
  have h1 := h.mono (Nat.le_max_left n m)
  have h2 := k.mono (Nat.le_max_right n m)
  unfold Sm at *
  rw [Nat.pow_succ]
  omega
theorem Sm.neg {n : Nat} {x : Int} (h : Sm n x) : Sm n (-x) := by
  unfold Sm at *
  omega
theorem Sm.sub {n m : Nat} {x y : Int} (h : Sm n x) (k : Sm m y) : Sm (max n m + 1) (x - y) := by
  rw [Int.sub_eq_add_neg]
  exact h.add k.neg
theorem Sm.mul {n m : Nat} {x y : Int} (h : Sm n x) (k : Sm m y) : Sm (n + m) (x * y) := wide_lt h k
theorem Sm.mulok {n m : Nat} {x y : Int} (h : Sm n x) (k : Sm m y) (z : n + m + 2 ≤ 1000000) : CMulW x y :=
  wide_mul (h.mono (Nat.le_succ n)) (k.mono (Nat.le_succ m)) (Nat.succ_pos _) (Nat.succ_pos _) (by omega)
theorem ev_mul (ha : Ev K ta Γ (.int i)) (hb : Ev K tb Γ (.int j)) (hC : CMulW i j) : Ev K (tOp (rI CMulW fun i j => .int (i * j)) ta tb) Γ (.int (i * j)) := ev_rI (f := fun i j => .int (i * j)) (fun _ _ _ => .int _) hC ha hb
theorem ev_fdiv (ha : Ev K ta Γ (.int i)) (hb : Ev K tb Γ (.int j)) (hC : CDiv i j) : Ev K (tOp (rI CDiv fun i j => .int (i / j)) ta tb) Γ (.int (i / j)) := ev_rI (f := fun i j => .int (i / j)) (fun _ _ _ => .int _) hC ha hb
theorem ev_fdivW (ha : Ev K ta Γ (.int i)) (hb : Ev K tb Γ (.int j)) (hC : CDivW i j) : Ev K (tOp (rI CDivW fun i j => .int (i / j)) ta tb) Γ (.int (i / j)) := ev_rI (f := fun i j => .int (i / j)) (fun _ _ _ => .int _) hC ha hb
theorem ev_fdivN (ha : Ev K ta Γ (.int i)) (hb : Ev K tb Γ (.int j)) (hC : CDivN i j) : Ev K (tOp (rI CDivN fun i j => .int (i.fdiv j)) ta tb) Γ (.int (i.fdiv j)) := ev_rI (f := fun i j => .int (i.fdiv j)) (fun _ _ _ => .int _) hC ha hb
theorem ev_mod (ha : Ev K ta Γ (.int i)) (hb : Ev K tb Γ (.int j)) (hC : 0 < j) : Ev K (tOp (rI (fun _ j => 0 < j) fun i j => .int (i % j)) ta tb) Γ (.int (i % j)) := ev_rI (C := fun _ j => 0 < j) (f := fun i j => .int (i % j)) (fun _ _ _ => .int _) hC ha hb
theorem ev_modN (ha : Ev K ta Γ (.int i)) (hb : Ev K tb Γ (.int j)) (hC : j ≠ 0) : Ev K (tOp (rI (fun _ j => j ≠ 0) fun i j => .int (i.fmod j)) ta tb) Γ (.int (i.fmod j)) := ev_rI (C := fun _ j => j ≠ 0) (f := fun i j => .int (i.fmod j)) (fun _ _ _ => .int _) hC ha hb
theorem ev_pow (ha : Ev K ta Γ (.int i)) (hb : Ev K tb Γ (.int j)) (hC : CPow i j) : Ev K (tOp (rI CPow fun i j => .int (i ^ j.toNat)) ta tb) Γ (.int (i ^ j.toNat)) := ev_rI (f := fun i j => .int (i ^ j.toNat)) (fun _ _ _ => .int _) hC ha hb
theorem ev_neg (ha : Ev K ta Γ (.int i)) : Ev K (tUn (rU fun i => .int (-i)) ta) Γ (.int (-i)) := fun H0 A σ H Q E q =>
  ha H0 A σ H _ E fun v H1 s1 r1 => by
    cases r1
    exact ⟨i, rfl, q _ H1 s1 (.int _)⟩
theorem ev_lt (ha : Ev K ta Γ (.int i)) (hb : Ev K tb Γ (.int j)) : Ev K (tOp (rI0 fun i j => .bl (decide (i < j))) ta tb) Γ (.bl (decide (i < j))) := ev_rI0 (f := fun i j => .bl (decide (i < j))) (fun _ _ _ => .bl _) ha hb
theorem ev_le (ha : Ev K ta Γ (.int i)) (hb : Ev K tb Γ (.int j)) : Ev K (tOp (rI0 fun i j => .bl (decide (i ≤ j))) ta tb) Γ (.bl (decide (i ≤ j))) := ev_rI0 (f := fun i j => .bl (decide (i ≤ j))) (fun _ _ _ => .bl _) ha hb
theorem ev_gt (ha : Ev K ta Γ (.int i)) (hb : Ev K tb Γ (.int j)) : Ev K (tOp (rI0 fun i j => .bl (decide (j < i))) ta tb) Γ (.bl (decide (j < i))) := ev_rI0 (f := fun i j => .bl (decide (j < i))) (fun _ _ _ => .bl _) ha hb
theorem ev_ge (ha : Ev K ta Γ (.int i)) (hb : Ev K tb Γ (.int j)) : Ev K (tOp (rI0 fun i j => .bl (decide (j ≤ i))) ta tb) Γ (.bl (decide (j ≤ i))) := ev_rI0 (f := fun i j => .bl (decide (j ≤ i))) (fun _ _ _ => .bl _) ha hb
theorem dec_vint (i j : Int) : decide (V.int i = V.int j) = decide (i = j) := by rw [dec_int, Bool.beq_eq_decide_eq]
theorem ev_eqI (ha : Ev K ta Γ (.int i)) (hb : Ev K tb Γ (.int j)) : Ev K (tOp rEq ta tb) Γ (.bl (decide (i = j))) :=
  ev_op ha hb fun v w H Q r1 r2 q => by
    cases r1
    cases r2
    refine ⟨rfl, ?_⟩
    rw [dec_vint]
    exact q _ H (Same.refl H) (.bl _)
theorem ev_neI (ha : Ev K ta Γ (.int i)) (hb : Ev K tb Γ (.int j)) : Ev K (tOp rNe ta tb) Γ (.bl (!decide (i = j))) :=
  ev_op ha hb fun v w H Q r1 r2 q => by
    cases r1
    cases r2
    refine ⟨rfl, ?_⟩
    rw [dec_vint]
    exact q _ H (Same.refl H) (.bl _)
theorem ev_eqS {x y : Str} (ha : Ev K ta Γ (.str x)) (hb : Ev K tb Γ (.str y)) : Ev K (tOp rEq ta tb) Γ (.bl (decide (x = y))) :=
  ev_op ha hb fun v w H Q r1 r2 q => by
    cases r1
    cases r2
    refine ⟨rfl, ?_⟩
    rw [dec_str, Bool.beq_eq_decide_eq]
    exact q _ H (Same.refl H) (.bl _)
theorem ev_neS {x y : Str} (ha : Ev K ta Γ (.str x)) (hb : Ev K tb Γ (.str y)) : Ev K (tOp rNe ta tb) Γ (.bl (!decide (x = y))) :=
  ev_op ha hb fun v w H Q r1 r2 q => by
    cases r1
    cases r2
    refine ⟨rfl, ?_⟩
    rw [dec_str, Bool.beq_eq_decide_eq]
    exact q _ H (Same.refl H) (.bl _)
/-- is None of data -/
def isNon : T → Bool
  | .non => true
  | _ => false
theorem Rp.isNon {H : Hp} {v : V} {x : T} (r : Rp K H v x) : decide (v = .non) = Cz.isNon x := by
  cases r <;> first | exact decide_eq_true rfl | exact decide_eq_false (fun z => nomatch z)
theorem ev_isN {x : T} (ha : Ev K ta Γ x) : Ev K (tOp (fun x y H Q => y = .non ∧ Q (.bl (decide (x = .non))) H) ta (tC .non)) Γ (.bl (isNon x)) :=
  ev_op ha ev_non fun v w H Q r1 r2 q => by
    cases r2
    refine ⟨rfl, ?_⟩
    rw [r1.isNon]
    exact q _ H (Same.refl H) (.bl _)
theorem ev_notN {x : T} (ha : Ev K ta Γ x) : Ev K (tOp (fun x y H Q => y = .non ∧ Q (.bl (!decide (x = .non))) H) ta (tC .non)) Γ (.bl (!isNon x)) :=
  ev_op ha ev_non fun v w H Q r1 r2 q => by
    cases r2
    refine ⟨rfl, ?_⟩
    rw [r1.isNon]
    exact q _ H (Same.refl H) (.bl _)

/-! ### == of data -/
mutual
def T.py : T → PyData
  | .non => .none
  | .bl b => .bool b
  | .int i => .int i
  | .str x => .str x
  | .tup ts => .tuple (T.pys ts)
  | .obj _ _ _ => .none
def T.pys : List T → List PyData
  | [] => []
  | t :: ts => T.py t :: T.pys ts
end
mutual
/-- no instance within -/
def T.pl : T → Bool
  | .obj _ _ _ => false
  | .tup ts => T.pls ts
  | _ => true
def T.pls : List T → Bool
  | [] => true
  | t :: ts => T.pl t && T.pls ts
end
mutual
theorem Rp.dp {H : Hp} : ∀ {v : V} {x : T}, Rp K H v x → T.pl x = true → Dp K H v (T.py x)
  | _, _, .non, _ => .non
  | _, _, .bl b, _ => .bl b
  | _, _, .int i, _ => .int i
  | _, _, .str x, _ => .str x
  | _, _, .tup h r, p => .tup h (Rps.dps r p)
theorem Rps.dps {H : Hp} : ∀ {vs : List V} {xs : List T}, Rps K H vs xs → T.pls xs = true → DpAll K H vs (T.pys xs)
  | _, _, .nil, _ => .nil
  | _, _, .cons h r, p => .cons (Rp.dp h (Bool.and_eq_true_iff.mp p).1) (Rps.dps r (Bool.and_eq_true_iff.mp p).2)
end
/-- plain data that == may be asked of -/
structure Pl (x : T) : Prop where
  pl : T.pl x = true
  sh : SeqAt.shaped (T.py x) = true
theorem ev_eqD {x y : T} (px : Pl x) (py : Pl y) (ha : Ev K ta Γ x) (hb : Ev K tb Γ y) : Ev K (tOp (rEqD K) ta tb) Γ (.bl (PyData.eqv (T.py x) (T.py y))) :=
  ev_op ha hb fun v w H Q r1 r2 q => ⟨_, _, r1.dp px.pl, r2.dp py.pl, px.sh, py.sh, q _ H (Same.refl H) (.bl _)⟩
theorem ev_neD {x y : T} (px : Pl x) (py : Pl y) (ha : Ev K ta Γ x) (hb : Ev K tb Γ y) : Ev K (tOp (rNeD K) ta tb) Γ (.bl (!PyData.eqv (T.py x) (T.py y))) :=
  ev_op ha hb fun v w H Q r1 r2 q => ⟨_, _, r1.dp px.pl, r2.dp py.pl, px.sh, py.sh, q _ H (Same.refl H) (.bl _)⟩

/-! ### tests -/
theorem evb_test {t : TE} {b : Bool} (h : Ev K t Γ (.bl b)) : EvB K (tTest t) Γ b := fun H0 A σ H Q E q => h H0 A σ H _ E fun v H1 s r => by
  cases r
  exact ⟨b, rfl, q H1 s⟩
theorem evb_val {t : TE} {b : Bool} (h : Ev K t Γ (.bl b)) : EvB K (tB t) Γ b := fun H0 A σ H Q E q => h H0 A σ H _ E fun v H1 s r => by
  cases r
  exact ⟨b, rfl, q H1 s⟩
theorem evb_and {t u : TT} {a b : Bool} (h : EvB K t Γ a) (k : a = true → EvB K u Γ b) (f : a = false → b = false) : EvB K (tAnd t u) Γ b := fun H0 A σ H Q E q => h H0 A σ H _ E fun H1 s => by
  cases a with
  | true => exact iteT (k rfl H0 A σ H1 Q (E.mono s) fun H2 s2 => q H2 (s.trans s2))
  | false => rw [f rfl] at q; exact iteF (q H1 s)
theorem evb_or {t u : TT} {a b : Bool} (h : EvB K t Γ a) (k : a = false → EvB K u Γ b) (f : a = true → b = true) : EvB K (tOr t u) Γ b := fun H0 A σ H Q E q => h H0 A σ H _ E fun H1 s => by
  cases a with
  | false => exact iteF (k rfl H0 A σ H1 Q (E.mono s) fun H2 s2 => q H2 (s.trans s2))
  | true => rw [f rfl] at q; exact iteT (q H1 s)
/-- both sides are asked: the plain forms -/
theorem evb_and2 {t u : TT} {a b : Bool} (h : EvB K t Γ a) (k : EvB K u Γ b) : EvB K (tAnd t u) Γ (a && b) := by
  cases a with
  | true => exact evb_and h (fun _ => k) (fun z => nomatch z)
  | false => exact evb_and h (fun z => nomatch z) (fun _ => rfl)
theorem evb_or2 {t u : TT} {a b : Bool} (h : EvB K t Γ a) (k : EvB K u Γ b) : EvB K (tOr t u) Γ (a || b) := by
  cases a with
  | false => exact evb_or h (fun _ => k) (fun z => nomatch z)
  | true => exact evb_or h (fun z => nomatch z) (fun _ => rfl)
theorem evb_not {t : TT} {a : Bool} (h : EvB K t Γ a) : EvB K (tNot t) Γ (!a) := fun H0 A σ H Q E q => h H0 A σ H _ E fun H1 s => q H1 s
theorem ev_andV {a b : Bool} (h : Ev K ta Γ (.bl a)) (k : a = true → Ev K tb Γ (.bl b)) (f : a = false → b = false) : Ev K (tAndV ta tb) Γ (.bl b) := fun H0 A σ H Q E q => h H0 A σ H _ E fun v H1 s r => by
  cases r
  cases a with
  | true => exact ⟨true, rfl, iteT (k rfl H0 A σ H1 Q (E.mono s) fun v H2 s2 r2 => q v H2 (s.trans s2) r2)⟩
  | false => rw [f rfl] at q; exact ⟨false, rfl, iteF (q _ H1 s (.bl _))⟩
theorem ev_orV {a b : Bool} (h : Ev K ta Γ (.bl a)) (k : a = false → Ev K tb Γ (.bl b)) (f : a = true → b = true) : Ev K (tOrV ta tb) Γ (.bl b) := fun H0 A σ H Q E q => h H0 A σ H _ E fun v H1 s r => by
  cases r
  cases a with
  | false => exact ⟨false, rfl, iteF (k rfl H0 A σ H1 Q (E.mono s) fun v H2 s2 r2 => q v H2 (s.trans s2) r2)⟩
  | true => rw [f rfl] at q; exact ⟨true, rfl, iteT (q _ H1 s (.bl _))⟩
theorem ev_and2 {a b : Bool} (h : Ev K ta Γ (.bl a)) (k : Ev K tb Γ (.bl b)) : Ev K (tAndV ta tb) Γ (.bl (a && b)) := by
  cases a with
  | true => exact ev_andV h (fun _ => k) (fun z => nomatch z)
  | false => exact ev_andV h (fun z => nomatch z) (fun _ => rfl)
theorem ev_or2 {a b : Bool} (h : Ev K ta Γ (.bl a)) (k : Ev K tb Γ (.bl b)) : Ev K (tOrV ta tb) Γ (.bl (a || b)) := by
  cases a with
  | false => exact ev_orV h (fun _ => k) (fun z => nomatch z)
  | true => exact ev_orV h (fun z => nomatch z) (fun _ => rfl)
theorem ev_notV {a : Bool} (h : Ev K ta Γ (.bl a)) : Ev K (tNotV ta) Γ (.bl (!a)) := fun H0 A σ H Q E q => h H0 A σ H _ E fun v H1 s r => by
  cases r
  exact ⟨a, rfl, q _ H1 s (.bl _)⟩
theorem ev_if {t : TT} {c : Bool} {x : T} (h : EvB K t Γ c) (k1 : c = true → Ev K ta Γ x) (k2 : c = false → Ev K tb Γ x) : Ev K (tIf t ta tb) Γ x := fun H0 A σ H Q E q => h H0 A σ H _ E fun H1 s => by
  cases c with
  | true => exact iteT (k1 rfl H0 A σ H1 Q (E.mono s) fun v H2 s2 r2 => q v H2 (s.trans s2) r2)
  | false => exact iteF (k2 rfl H0 A σ H1 Q (E.mono s) fun v H2 s2 r2 => q v H2 (s.trans s2) r2)
/-- a <= b <= c of ints -/
theorem ev_chain {g g' : Int → Int → V} {f f' : Int → Int → Bool} {tc : TE} {k : Int} (hg : ∀ i j, g i j = .bl (f i j)) (hg' : ∀ i j, g' i j = .bl (f' i j)) (ha : Ev K ta Γ (.int i)) (hb : Ev K tb Γ (.int j)) (hc : Ev K tc Γ (.int k)) :
    Ev K (tChain (rI0 g) (rI0 g') ta tb tc) Γ (.bl (f i j && f' j k)) := fun H0 A σ H Q E q =>
  ha H0 A σ H _ E fun v H1 s1 r1 => hb H0 A σ H1 _ (E.mono s1) fun w H2 s2 r2 => by
    cases r1
    cases r2
    refine ⟨i, j, rfl, rfl, f i j, hg i j, ?_⟩
    cases e : f i j with
    | true =>
      rw [e] at q
      refine iteT (hc H0 A σ H2 _ (E.mono (s1.trans s2)) fun u H3 s3 r3 => ?_)
      cases r3
      refine ⟨j, k, rfl, rfl, ?_⟩
      rw [hg']
      exact q _ H3 (s1.trans (s2.trans s3)) (.bl _)
    | false =>
      refine iteF ?_
      rw [e] at q
      exact q _ H2 (s1.trans s2) (.bl _)

/-! ### tuples, lists, their items -/
theorem eva_nil : EvA K tNil Γ [] := fun H0 A σ H Q E q => q [] H (Same.refl H) .nil
theorem eva_t {tr : TA} {x : T} {ds : List D} (ha : Ev K ta Γ x) (hr : EvA K tr Γ ds) : EvA K (tCons ta tr) Γ (.t x :: ds) := fun H0 A σ H Q E q =>
  ha H0 A σ H _ E fun v H1 s1 r1 => hr H0 A σ H1 _ (E.mono s1) fun vs H2 s2 r2 => q (v :: vs) H2 (s1.trans s2) (.cons (Rp.mono (Imm.of_same s2) r1) r2)
theorem eva_l {tr : TA} {xs : List T} {ds : List D} (ha : EvL K ta Γ xs) (hr : EvA K tr Γ ds) : EvA K (tCons ta tr) Γ (.l xs :: ds) := fun H0 A σ H Q E q =>
  ha H0 A σ H _ E fun b ws H1 s1 sq r1 => hr H0 A σ H1 _ (E.mono s1) fun vs H2 s2 r2 => q (.ref b :: vs) H2 (s1.trans s2) (.cons ⟨b, ws, rfl, s2.seq sq, r1.mono (Imm.of_same s2)⟩ r2)
theorem Args.rps {H : Hp} : ∀ {vs : List V} {ts : List T}, Args K H vs (ts.map D.t) → Rps K H vs ts
  | _, [], .nil => .nil
  | _, t :: ts, .cons h r => .cons h (Args.rps r)
theorem same_upd {H : Hp} {p : Addr} {o : HO} (h : H p = none) : Same H (upd H p o) := fun b x e => by
  rw [upd_ne (ne_of_none e h)]
  exact e
theorem ev_tup {t : TA} {ds : List D} (ts : List T) (h : EvA K t Γ ds) (e : ds = ts.map D.t) (z : ts.length ≤ 1000) : Ev K (tTup t) Γ (.tup ts) := fun H0 A σ H Q E q => by
  subst e
  refine h H0 A σ H _ E fun vs H1 s1 r1 => ?_
  have r := r1.rps
  refine ⟨by rw [r.length]; exact Nat.le_of_lt (small1000 z), fun p hp => ?_⟩
  exact q _ _ (s1.trans (same_upd hp)) (.tup (.of upd_same) (r.mono (Imm.of_same (same_upd hp))))
theorem evf_lst {t : TA} {ds : List D} (ts : List T) (h : EvA K t Γ ds) (e : ds = ts.map D.t) (z : ts.length ≤ 1000) : EvF K (tLst t) Γ ts := fun H0 A σ H Q E q => by
  subst e
  refine h H0 A σ H _ E fun vs H1 s1 r1 => ?_
  have r := r1.rps
  refine ⟨by rw [r.length]; exact Nat.le_of_lt (small1000 z), fun p hp => ?_⟩
  exact q p vs _ (s1.free hp) (s1.trans (same_upd hp)) upd_same (r.mono (Imm.of_same (same_upd hp)))
theorem Rps.atI {H : Hp} {vs : List V} {ts : List T} {t : T} (r : Rps K H vs ts) (h : atI ts i = some t) : ∃ v, L2.atI vs i = some v ∧ Rp K H v t := by
  unfold L2.atI at *
  rw [r.length]
  cases e : ixN ts.length i with
  | none => rw [e] at h; cases h
  | some j =>
    rw [e] at h
    exact r.get h
theorem ev_ixT {ts : List T} {t : T} (ha : Ev K ta Γ (.tup ts)) (hb : Ev K tb Γ (.int i)) (h : atI ts i = some t) : Ev K (tOp (rIxT K) ta tb) Γ t :=
  ev_op ha hb fun v w H Q r1 r2 q => by
    cases r1 with
    | tup s r =>
      cases r2
      obtain ⟨v, hv, rv⟩ := r.atI h
      exact ⟨_, _, i, v, rfl, rfl, s, hv, q v H (Same.refl H) rv⟩
theorem ev_ixL {ts : List T} {t : T} (ha : EvL K ta Γ ts) (hb : Ev K tb Γ (.int i)) (h : atI ts i = some t) : Ev K (tOp (rIxL K) ta tb) Γ t := fun H0 A σ H Q E q =>
  ha H0 A σ H _ E fun b vs H1 s1 sq r1 => hb H0 A σ H1 _ (E.mono s1) fun w H2 s2 r2 => by
    cases r2
    obtain ⟨v, hv, rv⟩ := (r1.mono (Imm.of_same s2)).atI h
    exact ⟨_, _, i, v, rfl, rfl, s2.seq sq, hv, q v H2 (s1.trans s2) rv⟩
/-! slices of lists -/
def EvO (K : PySem.W.Frag) (t : TO) (Γ : List D) (o : Option Int) : Prop := ∀ (H0 : Hp) (A : Nat → Addr) (σ : L2.St) (H : Hp) (Q : Option Int → Hp → Prop), EnvD K H0 H σ Γ A → (∀ H', Same H H' → Q o H') → t σ H Q
theorem evo_none : EvO K tNoPart Γ none := fun H0 A σ H Q E q => q H (Same.refl H)
theorem evo_some (h : Ev K ta Γ (.int i)) : EvO K (tPart ta) Γ (some i) := fun H0 A σ H Q E q => h H0 A σ H _ E fun v H1 s r => by
  cases r
  exact ⟨i, rfl, q H1 s⟩
def cutT (xs : List T) (lo hi : Option Int) : List T := (xs.drop (HT.sIx xs.length 0 lo)).take (HT.sIx xs.length xs.length hi - HT.sIx xs.length 0 lo)
theorem evf_slice {tl th : TO} {xs : List T} {lo hi : Option Int} (h : EvL K ta Γ xs) (hl : EvO K tl Γ lo) (hh : EvO K th Γ hi) : EvF K (tSl (rSlL K) ta tl th) Γ (cutT xs lo hi) := fun H0 A σ H Q E q =>
  h H0 A σ H _ E fun b vs H1 s1 sq r1 => hl H0 A σ H1 _ (E.mono s1) fun H2 s2 => hh H0 A σ H2 _ (E.mono (s1.trans s2)) fun H3 s3 =>
    ⟨b, vs, rfl, s3.seq (s2.seq sq), fun p hp => by
      have s := s1.trans (s2.trans s3)
      refine q p _ _ (s.free hp) (s.trans (same_upd hp)) upd_same ?_
      refine Rps.mono (Imm.of_same (same_upd hp)) ?_
      have r := r1.mono (Imm.of_same (s2.trans s3))
      have z : cutV vs lo hi = (vs.drop (HT.sIx xs.length 0 lo)).take (HT.sIx xs.length xs.length hi - HT.sIx xs.length 0 lo) := by unfold cutV; rw [r1.length]
      rw [z]
      unfold cutT
      exact (r.drop _).take _⟩
/-- tuple(..) of a list -/
theorem ev_tupleL {xs : List T} (h : EvL K ta Γ xs) : Ev K (tThen ta (kTup K)) Γ (.tup xs) := fun H0 A σ H Q E q =>
  h H0 A σ H _ E fun b vs H1 s1 sq r1 => .inl ⟨b, vs, rfl, sq, fun p hp => q _ _ (s1.trans (same_upd hp)) (.tup (.of upd_same) (r1.mono (Imm.of_same (same_upd hp))))⟩
theorem ev_tupleT {xs : List T} (h : Ev K ta Γ (.tup xs)) : Ev K (tThen ta (kTup K)) Γ (.tup xs) := fun H0 A σ H Q E q =>
  h H0 A σ H _ E fun v H1 s1 r1 => by
    cases r1 with
    | tup s r => exact .inr ⟨_, _, rfl, s, q _ _ s1 (.tup s r)⟩

/-! ### built-in calls -/
theorem ev_call1 {r : List V → Hp → VK → Prop} {x y : T} (ha : Ev K ta Γ x) (h : ∀ v H (Q : VK), Rp K H v x → (∀ u H', Same H H' → Rp K H' u y → Q u H') → r [v] H Q) : Ev K (tCB r (tCons ta tNil)) Γ y := fun H0 A σ H Q E q =>
  ha H0 A σ H _ E fun v H1 s1 r1 => h v H1 Q r1 fun u H2 s2 r2 => q u H2 (s1.trans s2) r2
theorem ev_int1 (ha : Ev K ta Γ (.int i)) : Ev K (tCB (fun xs H Q => (∃ i, xs = [.int i] ∧ Q (.int i) H) ∨ ∃ k, xs = [.bl k] ∧ Q (.int (if k then 1 else 0)) H) (tCons ta tNil)) Γ (.int i) :=
  ev_call1 ha fun v H Q r q => by
    cases r
    exact .inl ⟨i, rfl, q _ H (Same.refl H) (.int i)⟩
theorem ev_intB {k : Bool} (ha : Ev K ta Γ (.bl k)) : Ev K (tCB (fun xs H Q => (∃ i, xs = [.int i] ∧ Q (.int i) H) ∨ ∃ k, xs = [.bl k] ∧ Q (.int (if k then 1 else 0)) H) (tCons ta tNil)) Γ (.int (if k then 1 else 0)) :=
  ev_call1 ha fun v H Q r q => by
    cases r
    exact .inr ⟨k, rfl, q _ H (Same.refl H) (.int _)⟩
theorem ev_abs (ha : Ev K ta Γ (.int i)) : Ev K (tCB (fun xs H Q => ∃ i, xs = [.int i] ∧ Q (.int (if i < 0 then -i else i)) H) (tCons ta tNil)) Γ (.int (if i < 0 then -i else i)) :=
  ev_call1 ha fun v H Q r q => by
    cases r
    exact ⟨i, rfl, q _ H (Same.refl H) (.int _)⟩
theorem ev_lenL {xs : List T} (ha : EvL K ta Γ xs) : Ev K (tCB (fun xs H Q => ∃ p ys, xs = [.ref p] ∧ (SqL K H p ys ∨ SqT K H p ys) ∧ Q (.int ys.length) H) (tCons ta tNil)) Γ (.int xs.length) := fun H0 A σ H Q E q =>
  ha H0 A σ H _ E fun b vs H1 s1 sq r1 => ⟨b, vs, rfl, .inl sq, by rw [r1.length]; exact q _ H1 s1 (.int _)⟩
theorem ev_lenT {xs : List T} (ha : Ev K ta Γ (.tup xs)) : Ev K (tCB (fun xs H Q => ∃ p ys, xs = [.ref p] ∧ (SqL K H p ys ∨ SqT K H p ys) ∧ Q (.int ys.length) H) (tCons ta tNil)) Γ (.int xs.length) := fun H0 A σ H Q E q =>
  ha H0 A σ H _ E fun v H1 s1 r1 => by
    cases r1 with
    | tup sq r => exact ⟨_, _, rfl, .inr sq, by rw [r.length]; exact q _ H1 s1 (.int _)⟩

/-! ### a def's promise over data -/
def spD (K : PySem.W.Frag) (P : List D → D → Prop) : Sp := fun vs H Q _ => ∃ ds r, P ds r ∧ Args K H vs ds ∧ ∀ v H', Same H H' → Res K H H' v r → Q v H'
theorem ev_call {P : List D → D → Prop} {t : TA} {ds : List D} {x : T} {E : XK} (ha : EvA K t Γ ds) (hp : P ds (.t x)) : Ev K (tCall (spD K P) [] E t) Γ x := fun H0 A σ H Q EE q =>
  ha H0 A σ H _ EE fun vs H1 s1 r1 => ⟨ds, _, hp, by rw [List.append_nil]; exact r1, fun v H2 s2 r2 => q v H2 (s1.trans s2) r2⟩
theorem evf_call {P : List D → D → Prop} {t : TA} {ds : List D} {xs : List T} {E : XK} (ha : EvA K t Γ ds) (hp : P ds (.l xs)) : EvF K (tCall (spD K P) [] E t) Γ xs := fun H0 A σ H Q EE q =>
  ha H0 A σ H _ EE fun vs H1 s1 r1 => ⟨ds, _, hp, by rw [List.append_nil]; exact r1, fun v H2 s2 r2 => by
    obtain ⟨p, ws, rfl, n, e, r⟩ := r2
    exact q p ws H2 (s1.free n) (s1.trans s2) e r⟩
end
end Cz

namespace Cz
open PySem PySem.Spec PyProof.Rows L2
section
variable {K : PySem.W.Frag} {Γ : List D} {W : WX} {P : Po}

/-! ### statements -/
theorem sv_mono {t : TS} {P' : Po} (h : Sv K W t Γ P) (n : ∀ G, P.nx G → P'.nx G) (r : ∀ d, P.rt d → P'.rt d) (b : ∀ G, P.bk G → P'.bk G) (c : ∀ G, P.ct G → P'.ct G) (e : ∀ C G, P.er C G → P'.er C G) : Sv K W t Γ P' := fun H0 A σ H E hE M =>
  h H0 A σ H E hE ⟨fun G A σ H z => M.nx G A σ H (n G z), fun d v H z => M.rt d v H (r d z), fun G A σ H z => M.bk G A σ H (b G z), fun G A σ H z => M.ct G A σ H (c G z), fun C G A σ H z => M.er C G A σ H (e C G z)⟩
theorem sv_next (h : P.nx Γ) : Sv K W tNext Γ P := fun H0 A σ H E hE M => M.nx Γ A σ H h hE (.of_same (Same.refl H))
theorem sv_break (h : P.bk Γ) : Sv K W tBreak Γ P := fun H0 A σ H E hE M => M.bk Γ A σ H h hE (.of_same (Same.refl H))
theorem sv_cont (h : P.ct Γ) : Sv K W tCont Γ P := fun H0 A σ H E hE M => M.ct Γ A σ H h hE (.of_same (Same.refl H))
/-- one after another; mid: what is known between -/
theorem sv_seq {t u : TS} (mid : List D → Prop) (h : Sv K W t Γ { P with nx := mid }) (k : ∀ G, mid G → Sv K W u G P) : Sv K W (tSeq t u) Γ P := fun H0 A σ H E hE M =>
  h H0 A σ H { E with nx := u E } hE ⟨fun G A σ H z e g => k G z H0 A σ H E e (M.after g), M.rt, M.bk, M.ct, M.er⟩
/-- .. where the state between is the one state G -/
theorem sv_then {t u : TS} (G : List D) (h : Sv K W t Γ { P with nx := fun G' => G' = G }) (k : Sv K W u G P) : Sv K W (tSeq t u) Γ P := sv_seq (fun G' => G' = G) h fun _ e => e ▸ k
theorem sv_ret {te : TE} {x : T} (h : Ev K te Γ x) (hr : P.rt (.t x)) : Sv K W (tRet te) Γ P := fun H0 A σ H E hE M =>
  h H0 A σ H _ hE fun v H1 s r => M.rt _ v H1 hr r (hE.same.trans s)
theorem sv_retF {te : TE} {xs : List T} (h : EvF K te Γ xs) (hr : P.rt (.l xs)) : Sv K W (tRet te) Γ P := fun H0 A σ H E hE M =>
  h H0 A σ H _ hE fun p vs H1 n s e r => M.rt _ _ H1 hr ⟨p, vs, rfl, hE.same.free n, e, r⟩ (hE.same.trans s)
/-- return of an own list -/
theorem sv_retO {i : Nat} {xs : List T} (h : Γ[i]? = some (.own xs)) (hr : P.rt (.l xs)) : Sv K W (tRet (tVar i)) Γ P := fun H0 A σ H E hE M => by
  obtain ⟨e, n, vs, s, r⟩ := hE.ow h
  exact ⟨_, e, M.rt _ _ H hr ⟨_, vs, rfl, n, s, r⟩ hE.same⟩
theorem sv_retN (hr : P.rt (.t .non)) : Sv K W tRetN Γ P := fun H0 A σ H E hE M => M.rt _ _ H hr .non hE.same
theorem sv_if {t u : TS} {c : TT} {b : Bool} (h : EvB K c Γ b) (k1 : b = true → Sv K W t Γ P) (k2 : b = false → Sv K W u Γ P) : Sv K W (tIfS c t u) Γ P := fun H0 A σ H E hE M =>
  h H0 A σ H _ hE fun H1 s => by
    cases b with
    | true => exact iteT (k1 rfl H0 A σ H1 E (hE.mono s) (M.later s))
    | false => exact iteF (k2 rfl H0 A σ H1 E (hE.mono s) (M.later s))
theorem sv_never (h : False) : Sv K W tNever Γ P := h.elim
/-- what is raised -/
theorem sv_raise {C : Addr} (h : P.er C Γ) : Sv K W (fun _ σ H => W (.ref C) none σ H) Γ P := fun H0 A σ H E hE M => M.er C Γ A σ H h hE (.of_same (Same.refl H))
/-! targets -/
theorem gd_name (i : Nat) (x : T) : Gd K (gName i) Γ x (Γ.set i (.t x)) := fun H0 A σ H v Q E r q => q _ (E.setT r) .setT
theorem gds_nil : Gds K gNil Γ [] Γ := fun H0 A σ H vs Q E r q => by
  cases r
  exact ⟨rfl, q _ E (.of_same (Same.refl H))⟩
theorem gds_cons {g : TG} {u : TGs} {x : T} {xs : List T} {G1 G2 : List D} (h : Gd K g Γ x G1) (k : Gds K u G1 xs G2) : Gds K (gCons g u) Γ (x :: xs) G2 := fun H0 A σ H vs Q E r q => by
  cases r with
  | cons r rr => exact ⟨_, _, rfl, h H0 A σ H _ _ E r fun σ1 E1 g1 => k H0 A σ1 H _ _ E1 rr fun σ2 E2 g2 => q σ2 E2 (g1.trans g2)⟩
theorem gd_tup {u : TGs} {xs : List T} {n : Nat} {G : List D} (e : xs.length = n) (h : Gds K u Γ xs G) : Gd K (gTup K n u) Γ (.tup xs) G := fun H0 A σ H v Q E r q => by
  cases r with
  | tup s r => exact ⟨_, _, rfl, s, by rw [r.length]; exact e, h H0 A σ H _ _ E r q⟩
theorem sv_asg {te : TE} {g : TG} {x : T} {G : List D} (h : Ev K te Γ x) (hg : Gd K g Γ x G) (n : P.nx G) : Sv K W (tAsg te g) Γ P := fun H0 A σ H E hE M =>
  h H0 A σ H _ hE fun v H1 s r => hg H0 A σ H1 v _ (hE.mono s) r fun σ1 E1 g => M.nx G A σ1 H1 n E1 (g.same_then s)
theorem sv_set {te : TE} {i : Nat} {x : T} (h : Ev K te Γ x) (n : P.nx (Γ.set i (.t x))) : Sv K W (tAsg te (gName i)) Γ P := sv_asg h (gd_name i x) n
theorem sv_setF {te : TE} {i : Nat} {xs : List T} (h : EvF K te Γ xs) (n : P.nx (Γ.set i (.own xs))) : Sv K W (tAsg te (gName i)) Γ P := fun H0 A σ H E hE M =>
  h H0 A σ H _ hE fun p vs H1 np s e r => M.nx _ _ _ H1 n (hE.setL s np e r) (.setL s np)
theorem sv_drop {te : TE} {x : T} (h : Ev K te Γ x) (n : P.nx Γ) : Sv K W (tDrop te) Γ P := fun H0 A σ H E hE M =>
  h H0 A σ H _ hE fun v H1 s r => M.nx Γ A σ H1 n (hE.mono s) (.of_same s)
/-- xs.append(e) of an own list -/
theorem sv_append {te : TE} {i : Nat} {xs : List T} {y : T} (hi : Γ[i]? = some (.own xs)) (h : Ev K te Γ y) (z : xs.length < 1000000) (n : P.nx (Γ.set i (.own (xs ++ [y])))) :
    Sv K W (tDrop (tBM K "list" rAppend (tVar i) (tCons te tNil))) Γ P := fun H0 A σ H E hE M => by
  obtain ⟨e, n0, vs, s, r⟩ := hE.ow hi
  refine ⟨.ref (A i), e, .inl ⟨rfl, vs, .of s⟩, ?_⟩
  refine h H0 A σ H _ hE fun v H1 s1 r1 => ?_
  have E1 := hE.mono s1
  obtain ⟨_, _, vs', s', r'⟩ := E1.ow hi
  refine ⟨A i, vs', v, rfl, rfl, s', ?_, ?_⟩
  · rw [r'.length, sizeLine_eq]; omega
  · exact M.nx _ A σ _ n (E1.chg hi (r'.append (.cons r1 .nil))) ((Go.chg hi).same_then s1)
/-- xs[k] = e of an own list -/
theorem sv_setitem {te ti : TE} {i : Nat} {xs : List T} {y : T} {k : Int} {j : Nat} (hi : Γ[i]? = some (.own xs)) (h : Ev K te Γ y) (hk : Ev K ti Γ (.int k)) (hj : ixN xs.length k = some j) (n : P.nx (Γ.set i (.own (xs.set j y)))) :
    Sv K W (tAsg te (gSub (tVar i) ti rSetL)) Γ P := fun H0 A σ H E hE M =>
  h H0 A σ H _ hE fun v H1 s1 r1 => by
    have E1 := hE.mono s1
    obtain ⟨e, _, _, _, _⟩ := E1.ow hi
    refine ⟨.ref (A i), e, hk H0 A σ H1 _ E1 fun w H2 s2 r2 => ?_⟩
    cases r2
    have E2 := E1.mono s2
    obtain ⟨_, _, vs, s, r⟩ := E2.ow hi
    refine ⟨A i, vs, k, j, rfl, rfl, s, by rw [r.length]; exact hj, ?_⟩
    exact M.nx _ A σ _ n (E2.chg hi (Rps.set (Rp.mono (Imm.of_same s2) r1) j r)) ((Go.chg hi).same_then (s1.trans s2))
/-- x op= e of an int -/
theorem sv_aug {te : TE} {i : Nat} {a b : Int} {f : Int → Int → Int} (hi : Γ[i]? = some (.t (.int a))) (h : Ev K te Γ (.int b)) (n : P.nx (Γ.set i (.t (.int (f a b))))) : Sv K W (tAug i te (ipI f)) Γ P := fun H0 A σ H E hE M => by
  obtain ⟨v, e, r⟩ := hE.tv hi
  refine ⟨v, e, h H0 A σ H _ hE fun w H1 s1 r1 => ?_⟩
  cases r
  cases r1
  exact ⟨a, b, rfl, rfl, M.nx _ A _ H1 n ((hE.mono s1).setT (.int _)) (Go.setT.same_then s1)⟩

/-- an own list is only read from here on -/
theorem sv_freeze {t : TS} {k : Nat} {xs : List T} (h : Γ[k]? = some (.own xs)) (s : Sv K W t (Γ.set k (.l xs)) P) : Sv K W t Γ P := fun H0 A σ H E hE M =>
  s H0 A σ H E (hE.freeze h) (M.after (Go.put fun _ z => nomatch z))

/-! ### loops -/
section
variable {g : TG} {tb : TS}
/-- a turn of a loop, as the rules of the layer ask it -/
theorem Meet.turn {H0 H H1 : Hp} {A A1 : Nat → Addr} {G1 : List D} {E : Ends} {I : List D → Prop} {J : L2.St → Hp → Prop} (M : Meet K W H0 Γ A H P E) (s : Go Γ A H G1 A1 H1)
    (hJ : ∀ G B σ H', I G → EnvD K H0 H' σ G B → Go Γ A H G B H' → J σ H') : Meet K W H0 G1 A1 H1 { P with nx := I, ct := I, bk := P.nx } { E with nx := J, ct := J, bk := E.nx } :=
  ⟨fun G B σ H' p e g => hJ G B σ H' p e (s.trans g), M.rt, fun G B σ H' p e g => M.nx G B σ H' p e (s.trans g), fun G B σ H' p e g => hJ G B σ H' p e (s.trans g), fun C G B σ H' p e g => M.er C G B σ H' p e (s.trans g)⟩
/-- for over a range; I: what holds ahead of the i-th turn -/
theorem sv_range1 {ta : TE} {n : Int} (I : Nat → List D → Prop) (h : Ev K ta Γ (.int n)) (z : -4611686018427387904 ≤ n ∧ n < 4611686018427387904) (h0 : I 0 Γ)
    (hs : ∀ i G, i < n.toNat → I i G → ∃ G', Gd K g G (.int i) G' ∧ Sv K W tb G' { P with nx := I (i + 1), ct := I (i + 1), bk := P.nx }) (hd : ∀ G, I n.toNat G → P.nx G) :
    Sv K W (tFor (iRng1 (tCons ta tNil)) g tb) Γ P := fun H0 A σ H E hE M => by
  refine h H0 A σ H _ hE fun v H1 s r => ?_
  cases r
  have M := M.later s
  refine ⟨n, rfl, by simpa using z.1, by simpa using z.2, for_range (fun i σ H => ∃ G B, I i G ∧ EnvD K H0 H σ G B ∧ Go Γ A H1 G B H) ⟨Γ, A, h0, hE.mono s, .of_same (Same.refl H1)⟩ ?_ ?_⟩
  · rintro i σ H ii ⟨G, B, iG, eG, gG⟩
    obtain ⟨G', hg, hb⟩ := hs i G ii iG
    rw [Int.zero_add]
    refine hg H0 B σ H _ _ eG (.int i) fun σ2 e2 g2 => ?_
    exact hb H0 B σ2 H _ e2 (M.turn (gG.trans g2) fun G B σ H' p e g => ⟨G, B, p, e, g⟩)
  · rintro σ H ⟨G, B, iG, eG, gG⟩
    exact M.nx G B σ H (hd G iG) eG gG
theorem sv_range2 {ta tc : TE} {a n : Int} (I : Nat → List D → Prop) (ha : Ev K ta Γ (.int a)) (h : Ev K tc Γ (.int n)) (z : -4611686018427387904 ≤ a ∧ a < 4611686018427387904 ∧ -4611686018427387904 ≤ n ∧ n < 4611686018427387904) (h0 : I 0 Γ)
    (hs : ∀ i G, i < (n - a).toNat → I i G → ∃ G', Gd K g G (.int (a + i)) G' ∧ Sv K W tb G' { P with nx := I (i + 1), ct := I (i + 1), bk := P.nx }) (hd : ∀ G, I (n - a).toNat G → P.nx G) :
    Sv K W (tFor (iRng2 (tCons ta (tCons tc tNil))) g tb) Γ P := fun H0 A σ H E hE M => by
  refine ha H0 A σ H _ hE fun v H1 s1 r1 => h H0 A σ H1 _ (hE.mono s1) fun w H2 s2 r2 => ?_
  cases r1
  cases r2
  have M := (M.later s1).later s2
  refine ⟨a, n, rfl, by simpa using z, for_range (fun i σ H => ∃ G B, I i G ∧ EnvD K H0 H σ G B ∧ Go Γ A H2 G B H) ⟨Γ, A, h0, (hE.mono s1).mono s2, .of_same (Same.refl H2)⟩ ?_ ?_⟩
  · rintro i σ H ii ⟨G, B, iG, eG, gG⟩
    obtain ⟨G', hg, hb⟩ := hs i G ii iG
    refine hg H0 B σ H _ _ eG (.int _) fun σ2 e2 g2 => ?_
    exact hb H0 B σ2 H _ e2 (M.turn (gG.trans g2) fun G B σ H' p e g => ⟨G, B, p, e, g⟩)
  · rintro σ H ⟨G, B, iG, eG, gG⟩
    exact M.nx G B σ H (hd G iG) eG gG
/-- for over a tuple of data -/
theorem sv_forT {ta : TE} {xs : List T} (I : Nat → List D → Prop) (h : Ev K ta Γ (.tup xs)) (h0 : I 0 Γ)
    (hs : ∀ i x G, xs[i]? = some x → I i G → ∃ G', Gd K g G x G' ∧ Sv K W tb G' { P with nx := I (i + 1), ct := I (i + 1), bk := P.nx }) (hd : ∀ G, I xs.length G → P.nx G) :
    Sv K W (tFor (iTup K ta) g tb) Γ P := fun H0 A σ H E hE M => by
  refine h H0 A σ H _ hE fun v H1 s r => ?_
  cases r with
  | tup sq r =>
    rename_i a vs
    have M := M.later s
    have hE := hE.mono s
    refine ⟨a, rfl, ⟨vs, sq⟩, for_tup (K := K) (a := a) (xs := vs) (fun i σ H => ∃ G B, I i G ∧ EnvD K H0 H σ G B ∧ Go Γ A H1 G B H) ⟨Γ, A, h0, hE, .of_same (Same.refl H1)⟩ (fun i σ H _ ⟨G, B, _, _, g⟩ => g.sqT hE sq) ?_ ?_⟩
    · rintro i y σ H ii ⟨G, B, iG, eG, gG⟩
      obtain ⟨x, hx, rx⟩ := r.at' ii
      obtain ⟨G', hg, hb⟩ := hs i x G hx iG
      refine hg H0 B σ H _ _ eG (Rp.mono (gG.imm hE) rx) fun σ2 e2 g2 => ?_
      exact hb H0 B σ2 H _ e2 (M.turn (gG.trans g2) fun G B σ H' p e g => ⟨G, B, p, e, g⟩)
    · rintro σ H ⟨G, B, iG, eG, gG⟩
      exact M.nx G B σ H (by rw [r.length] at iG; exact hd G iG) eG gG
/-- for over a new list -/
theorem sv_forF {ta : TE} {xs : List T} (I : Nat → List D → Prop) (h : EvF K ta Γ xs) (h0 : I 0 Γ)
    (hs : ∀ i x G, xs[i]? = some x → I i G → ∃ G', Gd K g G x G' ∧ Sv K W tb G' { P with nx := I (i + 1), ct := I (i + 1), bk := P.nx }) (hd : ∀ G, I xs.length G → P.nx G) :
    Sv K W (tFor (iList K ta) g tb) Γ P := fun H0 A σ H E hE M => by
  refine h H0 A σ H _ hE fun a vs H1 n s ea r => ?_
  have M := M.later s
  have hE1 := hE.mono s
  have nown : ¬ IsOwn Γ A a := fun ⟨j, ys, q, z⟩ => by
    obtain ⟨_, _, ws, w, _⟩ := hE.ow q
    rw [z, n] at w
    cases w
  refine ⟨a, rfl, ⟨vs, .of ea⟩, for_list (K := K) (a := a) (xs := vs) (fun i σ H => ∃ G B, I i G ∧ EnvD K H0 H σ G B ∧ Go Γ A H1 G B H) ⟨Γ, A, h0, hE1, .of_same (Same.refl H1)⟩ (fun i σ H _ ⟨G, B, _, _, g⟩ => .of (g.kp a _ ea nown)) ?_ ?_⟩
  · rintro i y σ H ii ⟨G, B, iG, eG, gG⟩
    obtain ⟨x, hx, rx⟩ := r.at' ii
    obtain ⟨G', hg, hb⟩ := hs i x G hx iG
    refine hg H0 B σ H _ _ eG (Rp.mono (gG.imm hE1) rx) fun σ2 e2 g2 => ?_
    exact hb H0 B σ2 H _ e2 (M.turn (gG.trans g2) fun G B σ H' p e g => ⟨G, B, p, e, g⟩)
  · rintro σ H ⟨G, B, iG, eG, gG⟩
    exact M.nx G B σ H (by rw [r.length] at iG; exact hd G iG) eG gG
/-- for over a list that is only read -/
theorem sv_forV {k : Nat} {xs : List T} (I : Nat → List D → Prop) (hk : Γ[k]? = some (.l xs)) (h0 : I 0 Γ)
    (hs : ∀ i x G, xs[i]? = some x → I i G → ∃ G', Gd K g G x G' ∧ Sv K W tb G' { P with nx := I (i + 1), ct := I (i + 1), bk := P.nx }) (hd : ∀ G, I xs.length G → P.nx G) :
    Sv K W (tFor (iList K (tVar k)) g tb) Γ P := fun H0 A σ H E hE M => by
  have q := hE.sl k _ hk
  cases e : σ[k]? with
  | none => rw [e] at q; exact q.elim
  | some o => cases o with
    | none => rw [e] at q; exact q.elim
    | some v =>
      rw [e] at q
      obtain ⟨a, vs, e1, sq, n, r⟩ := q
      subst e1
      refine ⟨_, e, a, rfl, ⟨vs, sq⟩, for_list (K := K) (a := a) (xs := vs) (fun i σ H1 => ∃ G B, I i G ∧ EnvD K H0 H1 σ G B ∧ Go Γ A H G B H1) ⟨Γ, A, h0, hE, .of_same (Same.refl H)⟩ (fun i σ H _ ⟨G, B, _, _, g⟩ => g.sqL sq n) ?_ ?_⟩
      · rintro i y σ1 H1 ii ⟨G, B, iG, eG, gG⟩
        obtain ⟨x, hx, rx⟩ := r.at' ii
        obtain ⟨G', hg, hb⟩ := hs i x G hx iG
        refine hg H0 B σ1 H1 _ _ eG (Rp.mono (gG.imm hE) rx) fun σ2 e2 g2 => ?_
        exact hb H0 B σ2 H1 _ e2 (M.turn (gG.trans g2) fun G B σ H' p e g => ⟨G, B, p, e, g⟩)
      · rintro σ H ⟨G, B, iG, eG, gG⟩
        exact M.nx G B σ H (by rw [r.length] at iG; exact hd G iG) eG gG
end
end
end Cz

namespace Cz
open PySem PySem.Spec PyProof.Rows L2

/-! ### comprehensions -/
theorem wipe_set_none (σ : L2.St) (i : Nat) (o : Option V) : ∀ vs : List Nat, (wipe (σ.set i o) vs).set i none = (wipe σ vs).set i none
  | [] => by show (σ.set i o).set i none = σ.set i none; rw [List.set_set]
  | v :: vs => by
    show ((wipe (σ.set i o) vs).set v none).set i none = ((wipe σ vs).set v none).set i none
    by_cases e : v = i
    · subst e; rw [List.set_set, List.set_set, wipe_set_none σ v o vs]
    · rw [List.set_comm _ _ e, wipe_set_none σ i o vs, List.set_comm _ _ (Ne.symm e)]
theorem wipe_set {σ : L2.St} {i : Nat} {o : Option V} : ∀ {vs : List Nat}, i ∈ vs → wipe (σ.set i o) vs = wipe σ vs
  | v :: vs, h => by
    show (wipe (σ.set i o) vs).set v none = (wipe σ vs).set v none
    by_cases e : i = v
    · subst e; exact wipe_set_none σ i o vs
    · rw [wipe_set (vs := vs) (by simpa [e] using h)]
section
variable (K : PySem.W.Frag)
/-- a comprehension's target: only the slots ks are given -/
def Gv (g : TG) (Γ : List D) (x : T) (Γ' : List D) (ks : List Nat) : Prop := ∀ (H0 : Hp) (A : Nat → Addr) (σ : L2.St) (H : Hp) (v : V) (Q : L2.St → Hp → Prop), EnvD K H0 H σ Γ A → Rp K H v x →
  (∀ σ', EnvD K H0 H σ' Γ' A → wipe σ' ks = wipe σ ks → Q σ' H) → g v σ H Q
def Gvs (g : TGs) (Γ : List D) (xs : List T) (Γ' : List D) (ks : List Nat) : Prop := ∀ (H0 : Hp) (A : Nat → Addr) (σ : L2.St) (H : Hp) (vs : List V) (Q : L2.St → Hp → Prop), EnvD K H0 H σ Γ A → Rps K H vs xs →
  (∀ σ', EnvD K H0 H σ' Γ' A → wipe σ' ks = wipe σ ks → Q σ' H) → g vs σ H Q
end
section
variable {K : PySem.W.Frag} {Γ : List D} {W : WX} {P : Po}
theorem gv_name (i : Nat) (x : T) {ks : List Nat} (h : i ∈ ks) : Gv K (gName i) Γ x (Γ.set i (.t x)) ks := fun H0 A σ H v Q E r q => q _ (E.setT r) (wipe_set h)
theorem gvs_nil {ks : List Nat} : Gvs K gNil Γ [] Γ ks := fun H0 A σ H vs Q E r q => by
  cases r
  exact ⟨rfl, q _ E rfl⟩
theorem gvs_cons {g : TG} {u : TGs} {x : T} {xs : List T} {G1 G2 : List D} {ks : List Nat} (h : Gv K g Γ x G1 ks) (k : Gvs K u G1 xs G2 ks) : Gvs K (gCons g u) Γ (x :: xs) G2 ks := fun H0 A σ H vs Q E r q => by
  cases r with
  | cons r rr => exact ⟨_, _, rfl, h H0 A σ H _ _ E r fun σ1 E1 g1 => k H0 A σ1 H _ _ E1 rr fun σ2 E2 g2 => q σ2 E2 (g2.trans g1)⟩
theorem gv_tup {u : TGs} {xs : List T} {n : Nat} {G : List D} {ks : List Nat} (e : xs.length = n) (h : Gvs K u Γ xs G ks) : Gv K (gTup K n u) Γ (.tup xs) G ks := fun H0 A σ H v Q E r q => by
  cases r with
  | tup s r => exact ⟨_, _, rfl, s, by rw [r.length]; exact e, h H0 A σ H _ _ E r q⟩
theorem evb_yes : EvB K tYes Γ true := fun H0 A σ H Q E q => q H (Same.refl H)
/-- what stands in the new list behind i items -/
theorem take_snoc {α : Type} {l : List α} {i : Nat} {x : α} (h : l[i]? = some x) : l.take (i + 1) = l.take i ++ [x] := by
  rw [List.take_add_one, h]; rfl
section
variable {g : TG} {tt : TT} {te : TE} {ks : List Nat}
/-- one turn -/
def CT (K : PySem.W.Frag) (Γ : List D) (g : TG) (tt : TT) (te : TE) (ks : List Nat) (x : T) (c : Bool) (y : T) : Prop :=
  ∃ G', Gv K g (wipeD Γ ks) x G' ks ∧ EvB K tt G' c ∧ (c = true → Ev K te G' y)
theorem CT.run {x y : T} {c : Bool} (h : CT K Γ g tt te ks x c y) {H0 H1 H : Hp} {A : Nat → Addr} {σ : L2.St} {D : Addr} {v : V} {acc : List V} {ys : List T} {N : Hp → Prop} (E : EnvD K H0 H1 σ Γ A) (hD : H1 D = none)
    (s : Same H1 H) (ha : H D = some (.lst acc)) (r : Rps K H acc ys) (z : ys.length < 1000000) (rv : Rp K H v x)
    (hN : ∀ H', Same H1 H' → (∃ acc', H' D = some (.lst acc') ∧ Rps K H' acc' (if c = true then ys ++ [y] else ys)) → N H') :
    g v (wipe σ ks) H fun σ2 H2 => wipe σ2 ks = wipe σ ks ∧ tt σ2 H2 fun b H3 => if b = true then te σ2 H3 fun y H4 => ∃ acc, H4 D = some (.lst acc) ∧ acc.length < sizeLine ∧ N (upd H4 D (.lst (acc ++ [y]))) else N H3 := by
  obtain ⟨G', hg, hb, he⟩ := h
  have Ew := (E.wipe ks).mono s
  have w2 : ∀ σ : L2.St, wipe (wipe σ ks) ks = wipe σ ks := fun σ => by
    have q : ∀ (l : List Nat) (τ : L2.St), (∀ k ∈ l, ∀ o, τ[k]? = some o → o = none) → wipe τ l = τ := fun l => by
      induction l with
      | nil => intro τ _; rfl
      | cons k l ih =>
        intro τ h
        show (wipe τ l).set k none = τ
        rw [ih τ fun j hj => h j (List.mem_cons_of_mem _ hj)]
        apply List.ext_getElem?
        intro j
        by_cases e : k = j
        · subst e
          by_cases hk : k < τ.length
          · rw [List.getElem?_set_self hk, List.getElem?_eq_getElem hk, h k List.mem_cons_self _ (List.getElem?_eq_getElem hk)]
          · rw [List.getElem?_eq_none (by rw [List.length_set]; omega), List.getElem?_eq_none (by omega)]
        · rw [List.getElem?_set_ne e]
    refine q ks _ fun k hk o ho => ?_
    cases o with
    | none => rfl
    | some v => exact absurd hk (wipe_some ho).2
  refine hg H0 A (wipe σ ks) H v _ Ew rv fun σ2 E2 e2 => ⟨by rw [e2, w2], ?_⟩
  refine hb H0 A σ2 H _ E2 fun H3 s3 => ?_
  cases c with
  | true =>
    refine iteT (he rfl H0 A σ2 H3 _ (E2.mono s3) fun u H4 s4 r4 => ?_)
    have s34 := s3.trans s4
    refine ⟨acc, s34 _ _ ha, by rw [r.length, sizeLine_eq]; omega, ?_⟩
    have m : Imm H4 (upd H4 D (.lst (acc ++ [u]))) := Imm.of_lst (s34 _ _ ha)
    refine hN _ (fun b o q => ?_) ⟨_, upd_same, ?_⟩
    · rw [upd_ne (ne_of_none q hD)]
      exact s34 _ _ (s _ _ q)
    · rw [if_pos rfl]
      exact ((r.mono (Imm.of_same s34)).mono m).append (.cons (Rp.mono m r4) .nil)
  | false =>
    refine iteF (hN H3 (s.trans s3) ⟨acc, s3 _ _ ha, ?_⟩)
    rw [if_neg (by decide)]
    exact r.mono (Imm.of_same s3)
/-- the items kept, one after another -/
def keptN (c : Nat → Bool) (f : Nat → T) (n : Nat) : List T := ((List.range n).filter c).map f
theorem keptN_succ {c : Nat → Bool} {f : Nat → T} {n : Nat} : keptN c f (n + 1) = if c n = true then keptN c f n ++ [f n] else keptN c f n := by
  unfold keptN
  rw [List.range_succ, List.filter_append, List.map_append]
  by_cases e : c n = true
  · rw [if_pos e]; simp [e]
  · rw [if_neg e]; simp [e]
theorem keptN_len {c : Nat → Bool} {f : Nat → T} {n : Nat} : (keptN c f n).length ≤ n := by
  unfold keptN
  rw [List.length_map]
  exact Nat.le_trans (List.length_filter_le c _) (by rw [List.length_range]; exact Nat.le_refl n)
theorem keptN_all {ys : List T} : keptN (fun _ => true) (fun i => ys.getD i .non) ys.length = ys := by
  unfold keptN
  rw [List.filter_eq_self.mpr (fun _ _ => rfl)]
  apply List.ext_getElem?
  intro i
  rw [List.getElem?_map]
  by_cases h : i < ys.length
  · rw [List.getElem?_range h, List.getElem?_eq_getElem h]
    simp [List.getD, List.getElem?_eq_getElem h]
  · rw [List.getElem?_eq_none (by rw [List.length_range]; omega), List.getElem?_eq_none (by omega)]
    rfl
theorem keptN_eq {c : Nat → Bool} {f : Nat → T} {xs : List T} {p : T → Bool} {q : T → T} (h : ∀ i x, xs[i]? = some x → c i = p x ∧ f i = q x) : keptN c f xs.length = (xs.filter p).map q := by
  have e : ∀ n, n ≤ xs.length → keptN c f n = ((xs.take n).filter p).map q := fun n => by
    induction n with
    | zero => intro _; rfl
    | succ n ih =>
      intro hn
      have hx : xs[n]? = some xs[n] := List.getElem?_eq_getElem hn
      obtain ⟨e1, e2⟩ := h n _ hx
      rw [keptN_succ, ih (by omega), take_snoc hx, List.filter_append, List.map_append, e1, e2]
      by_cases e : p xs[n] = true
      · rw [if_pos e]; simp [e]
      · rw [if_neg e]; simp [e]
  rw [e _ (Nat.le_refl _), List.take_length]
/-- over a list (a new one, or one to be read) -/
theorem evf_compL {tl : TE} {xs : List T} (c : Nat → Bool) (f : Nat → T) (hl : EvL K tl Γ xs) (z : xs.length < 1000000) (h : ∀ (i : Nat) (x : T), xs[i]? = some x → CT K Γ g tt te ks x (c i) (f i)) :
    EvF K (tLc (iList K tl) g tt te ks) Γ (keptN c f xs.length) := fun H0 A σ H Q E q =>
  hl H0 A σ H _ E fun a vs H1 s1 sq r => by
    have E1 := E.mono s1
    refine ⟨a, rfl, ⟨vs, sq⟩, fun D hD => lc_list (K := K) (a := a) (xs := vs) (fun i H => Same H1 H ∧ ∃ acc, H D = some (.lst acc) ∧ Rps K H acc (keptN c f i))
      ⟨same_upd hD, [], upd_same, .nil⟩ (fun i H _ p => p.1.seq sq) ?_ ?_⟩
    · rintro i v H hi ⟨s, acc, ha, ra⟩
      obtain ⟨x, hx, rx⟩ := r.at' hi
      have hil : i < xs.length := (List.getElem?_eq_some_iff.mp hx).1
      have zi : (keptN c f i).length < 1000000 := Nat.lt_of_le_of_lt keptN_len (by omega)
      refine (h i x hx).run E1 hD s ha ra zi (Rp.mono (Imm.of_same s) rx) fun H' s' ⟨acc', h', r'⟩ => ⟨s', acc', h', ?_⟩
      rw [keptN_succ]
      exact r'
    · rintro H ⟨s, acc, ha, ra⟩
      rw [r.length] at ra
      exact q D acc H (s1.free hD) (s1.trans s) ha ra
/-- over a tuple -/
theorem evf_compT {tl : TE} {xs : List T} (c : Nat → Bool) (f : Nat → T) (hl : Ev K tl Γ (.tup xs)) (z : xs.length < 1000000) (h : ∀ (i : Nat) (x : T), xs[i]? = some x → CT K Γ g tt te ks x (c i) (f i)) :
    EvF K (tLc (iTup K tl) g tt te ks) Γ (keptN c f xs.length) := fun H0 A σ H Q E q =>
  hl H0 A σ H _ E fun v H1 s1 rv => by
    cases rv with
    | tup sq r =>
      rename_i a vs
      have E1 := E.mono s1
      refine ⟨a, rfl, ⟨vs, sq⟩, fun D hD => lc_tup (K := K) (a := a) (xs := vs) (fun i H => Same H1 H ∧ ∃ acc, H D = some (.lst acc) ∧ Rps K H acc (keptN c f i))
        ⟨same_upd hD, [], upd_same, .nil⟩ (fun i H _ p => (Imm.of_same p.1).sqT sq) ?_ ?_⟩
      · rintro i v H hi ⟨s, acc, ha, ra⟩
        obtain ⟨x, hx, rx⟩ := r.at' hi
        have hil : i < xs.length := (List.getElem?_eq_some_iff.mp hx).1
        have zi : (keptN c f i).length < 1000000 := Nat.lt_of_le_of_lt keptN_len (by omega)
        refine (h i x hx).run E1 hD s ha ra zi (Rp.mono (Imm.of_same s) rx) fun H' s' ⟨acc', h', r'⟩ => ⟨s', acc', h', ?_⟩
        rw [keptN_succ]
        exact r'
      · rintro H ⟨s, acc, ha, ra⟩
        rw [r.length] at ra
        exact q D acc H (s1.free hD) (s1.trans s) ha ra
theorem comp_rg {lo : Int} {n : Nat} (c : Nat → Bool) (f : Nat → T) (z : n < 1000000) (h : ∀ i : Nat, i < n → CT K Γ g tt te ks (.int (lo + i)) (c i) (f i))
    {H0 H1 : Hp} {A : Nat → Addr} {σ : L2.St} {Q : VK} (E1 : EnvD K H0 H1 σ Γ A) (q : ∀ p vs H', H1 p = none → Same H1 H' → H' p = some (.lst vs) → Rps K H' vs (keptN c f n) → Q (.ref p) H') :
    ∀ D, H1 D = none → ∃ W : Nat → Nat → Hp → Prop, (∃ m, W 0 m (upd H1 D (.lst []))) ∧ ∀ i m H, W i m H →
      ((Itr lo n).stop i H ∧ Q (.ref D) H) ∨ ((Itr lo n).go i H ∧ ∃ Nx : Hp → Prop, (∀ H', Nx H' → ∃ m', m' < m ∧ W (i + 1) m' H') ∧ ∀ x H', (Itr lo n).yld i H x H' → g x (wipe σ ks) H' fun σ2 H2 => wipe σ2 ks = wipe σ ks ∧ tt σ2 H2 fun b H3 =>
        if b = true then te σ2 H3 fun y H4 => ∃ acc, H4 D = some (.lst acc) ∧ acc.length < sizeLine ∧ Nx (upd H4 D (.lst (acc ++ [y]))) else Nx H3) := fun D hD => by
  refine lc_range (lo := lo) (n := n) (fun i H => Same H1 H ∧ ∃ acc, H D = some (.lst acc) ∧ Rps K H acc (keptN c f i))
    ⟨same_upd hD, [], upd_same, .nil⟩ ?_ ?_
  · rintro i H hi ⟨s, acc, ha, ra⟩
    have zi : (keptN c f i).length < 1000000 := Nat.lt_of_le_of_lt keptN_len (by omega)
    refine (h i hi).run E1 hD s ha ra zi (.int _) fun H' s' ⟨acc', h', r'⟩ => ⟨s', acc', h', ?_⟩
    rw [keptN_succ]
    exact r'
  · rintro H ⟨s, acc, ha, ra⟩
    exact q D acc H hD s ha ra
theorem evf_compR1 {ta : TE} {n : Int} (c : Nat → Bool) (f : Nat → T) (hn : Ev K ta Γ (.int n)) (z : -4611686018427387904 ≤ n ∧ n < 1000000) (h : ∀ i : Nat, i < n.toNat → CT K Γ g tt te ks (.int i) (c i) (f i)) :
    EvF K (tLc (iRng1 (tCons ta tNil)) g tt te ks) Γ (keptN c f n.toNat) := fun H0 A σ H Q E q =>
  hn H0 A σ H _ E fun v H1 s1 rv => by
    cases rv
    exact ⟨n, rfl, by simpa using z.1, by omega, comp_rg c f (by omega) (fun i hi => by rw [Int.zero_add]; exact h i hi) (E.mono s1) fun p vs H' np s e r => q p vs H' (s1.free np) (s1.trans s) e r⟩
theorem evf_compR2 {ta tc : TE} {a n : Int} (c : Nat → Bool) (f : Nat → T) (ha : Ev K ta Γ (.int a)) (hn : Ev K tc Γ (.int n)) (z : (n - a).toNat < 1000000 ∧ -4611686018427387904 ≤ a ∧ a < 4611686018427387904 ∧ -4611686018427387904 ≤ n ∧ n < 4611686018427387904)
    (h : ∀ i : Nat, i < (n - a).toNat → CT K Γ g tt te ks (.int (a + i)) (c i) (f i)) :
    EvF K (tLc (iRng2 (tCons ta (tCons tc tNil))) g tt te ks) Γ (keptN c f (n - a).toNat) := fun H0 A σ H Q E q =>
  ha H0 A σ H _ E fun v H1 s1 rv => hn H0 A σ H1 _ (E.mono s1) fun w H2 s2 rw' => by
    cases rv
    cases rw'
    exact ⟨a, n, rfl, by simpa using z.2, comp_rg c f z.1 h ((E.mono s1).mono s2) fun p vs H' np s e r => q p vs H' (s1.free (s2.free np)) (s1.trans (s2.trans s)) e r⟩
end
/-! .. without a test: the list ys, item by item -/
section
variable {te : TE} {i : Nat}
/-- a turn whose target is the name in slot i -/
theorem ct1 {tt : TT} {x y : T} {c : Bool} (hb : EvB K tt ((wipeD Γ [i]).set i (.t x)) c) (h : c = true → Ev K te ((wipeD Γ [i]).set i (.t x)) y) : CT K Γ (gName i) tt te [i] x c y := ⟨_, gv_name i x (by simp), hb, h⟩
theorem getD_of {ys : List T} {j : Nat} {P : T → Prop} (hj : j < ys.length) (h : ∀ y, ys[j]? = some y → P y) : P (ys.getD j .non) := by
  have e : ys[j]? = some (ys.getD j .non) := by simp [List.getD, List.getElem?_eq_getElem hj]
  exact h _ e
theorem evf_lcL {tl : TE} {xs : List T} (ys : List T) (hl : EvL K tl Γ xs) (e : xs.length = ys.length) (z : xs.length < 1000000) (h : ∀ (j : Nat) (x y : T), xs[j]? = some x → ys[j]? = some y → Ev K te ((wipeD Γ [i]).set i (.t x)) y) : EvF K (tLc (iList K tl) (gName i) tYes te [i]) Γ ys :=
  evf_eq (evf_compL (fun _ => true) (fun j => ys.getD j .non) hl z fun j x hx => ct1 evb_yes fun _ => getD_of (by rw [← e]; exact (List.getElem?_eq_some_iff.mp hx).1) (h j x · hx)) (by rw [e, keptN_all])
theorem evf_lcT {tl : TE} {xs : List T} (ys : List T) (hl : Ev K tl Γ (.tup xs)) (e : xs.length = ys.length) (z : xs.length < 1000000) (h : ∀ (j : Nat) (x y : T), xs[j]? = some x → ys[j]? = some y → Ev K te ((wipeD Γ [i]).set i (.t x)) y) : EvF K (tLc (iTup K tl) (gName i) tYes te [i]) Γ ys :=
  evf_eq (evf_compT (fun _ => true) (fun j => ys.getD j .non) hl z fun j x hx => ct1 evb_yes fun _ => getD_of (by rw [← e]; exact (List.getElem?_eq_some_iff.mp hx).1) (h j x · hx)) (by rw [e, keptN_all])
theorem evf_lcR {ta : TE} {n : Int} (ys : List T) (hn : Ev K ta Γ (.int n)) (e : n.toNat = ys.length) (z : -4611686018427387904 ≤ n ∧ n < 1000000) (h : ∀ (j : Nat) (y : T), ys[j]? = some y → Ev K te ((wipeD Γ [i]).set i (.t (.int j))) y) : EvF K (tLc (iRng1 (tCons ta tNil)) (gName i) tYes te [i]) Γ ys :=
  evf_eq (evf_compR1 (fun _ => true) (fun j => ys.getD j .non) hn z fun j hj => ct1 evb_yes fun _ => getD_of (by rw [← e]; exact hj) (h j)) (by rw [e, keptN_all])
/-- three items -/
theorem evf_lcT3 {tl : TE} {x1 x2 x3 y1 y2 y3 : T} (hl : Ev K tl Γ (.tup [x1, x2, x3])) (h1 : Ev K te ((wipeD Γ [i]).set i (.t x1)) y1) (h2 : Ev K te ((wipeD Γ [i]).set i (.t x2)) y2) (h3 : Ev K te ((wipeD Γ [i]).set i (.t x3)) y3) : EvF K (tLc (iTup K tl) (gName i) tYes te [i]) Γ [y1, y2, y3] :=
  evf_lcT _ hl rfl (by show 3 < 1000000; decide) fun j x y hx hy => match j, hx, hy with
    | 0, hx, hy => by cases hx; cases hy; exact h1
    | 1, hx, hy => by cases hx; cases hy; exact h2
    | 2, hx, hy => by cases hx; cases hy; exact h3
    | k + 3, hx, _ => by simp at hx
theorem evf_lcR3 {y1 y2 y3 : T} (h1 : Ev K te ((wipeD Γ [i]).set i (.t (.int 0))) y1) (h2 : Ev K te ((wipeD Γ [i]).set i (.t (.int 1))) y2) (h3 : Ev K te ((wipeD Γ [i]).set i (.t (.int 2))) y3) : EvF K (tLc (iRng1 (tCons (tC (.int 3)) tNil)) (gName i) tYes te [i]) Γ [y1, y2, y3] :=
  evf_lcR _ ev_int rfl (by decide) fun j y hy => match j, hy with
    | 0, hy => by cases hy; exact h1
    | 1, hy => by cases hy; exact h2
    | 2, hy => by cases hy; exact h3
    | k + 3, hy => by simp at hy
/-- [tuple(line) for line in lines], lines a list of lists -/
theorem evf_lines {L : Nat} {xss : List (List T)} (hL : Γ[L]? = some (.ll xss)) (z : xss.length < 1000000) (n : i < Γ.length) : EvF K (tLc (iList K (tVar L)) (gName i) tYes (tThen (tVar i) (kTup K)) [i]) Γ (xss.map T.tup) := fun H0 A σ H Q E q => by
  have sL := E.sl L _ hL
  cases e : σ[L]? with
  | none => rw [e] at sL; exact sL.elim
  | some o => cases o with
    | none => rw [e] at sL; exact sL.elim
    | some v =>
      rw [e] at sL
      obtain ⟨b, vs, e1, sq, r⟩ := sL
      subst e1
      refine ⟨_, e, b, rfl, ⟨vs, sq.1⟩, fun D hD => lc_list (K := K) (a := b) (xs := vs) (fun j H1 => Same H H1 ∧ ∃ acc, H1 D = some (.lst acc) ∧ Rps K H1 acc ((xss.take j).map T.tup)) ⟨same_upd hD, [], upd_same, .nil⟩ (fun j H1 _ p => p.1.seq sq.1) ?_ ?_⟩
      · rintro j v H1 hj ⟨s, acc, ha, ra⟩
        obtain ⟨c, ws, xs, e2, hx, hc, rw'⟩ := r.at' hj
        subst e2
        have hil : i < σ.length := by rw [E.len]; exact n
        refine ⟨?_, ?_⟩
        · show ((wipe σ [i]).set i (some (.ref c))).set i none = _
          rw [List.set_set]
          show (σ.set i none).set i none = σ.set i none
          rw [List.set_set]
        · show tThen (tVar i) (kTup K) ((wipe σ [i]).set i (some (.ref c))) H1 _
          refine ⟨.ref c, ?_, .inl ⟨c, ws, rfl, s.seq hc.1, fun p hp => ?_⟩⟩
          · show ((σ.set i none).set i (some (.ref c)))[i]? = _
            rw [List.set_set, List.getElem?_set_self hil]
          · have npD : D ≠ p := ne_of_none ha hp
            refine ⟨acc, by rw [upd_ne npD]; exact ha, ?_, ?_⟩
            · rw [ra.length, List.length_map, List.length_take, sizeLine_eq]; omega
            · have h4 : (upd H1 p (.tup ws)) D = some (.lst acc) := by rw [upd_ne npD]; exact ha
              have m1 : Imm H1 (upd H1 p (.tup ws)) := Imm.of_same (same_upd hp)
              have m2 : Imm (upd H1 p (.tup ws)) (upd (upd H1 p (.tup ws)) D (.lst (acc ++ [.ref p]))) := Imm.of_lst h4
              refine ⟨fun b o q => ?_, _, upd_same, ?_⟩
              · rw [upd_ne (ne_of_none q hD)]
                exact same_upd hp _ _ (s _ _ q)
              · rw [take_snoc hx, List.map_append]
                refine ((ra.mono m1).mono m2).append (.cons (.tup (m2.sqT (.of upd_same)) ?_) .nil)
                exact ((rw'.mono (Imm.of_same s)).mono m1).mono m2
      · rintro H1 ⟨s, acc, ha, ra⟩
        rw [r.length, List.take_length] at ra
        exact q D acc H1 hD s ha ra
end
end

/-! ### a def -/
def startD (N : List Str) (ds : List D) : List D := ds ++ List.replicate (N.length - ds.length) .no
theorem Args.noown {K : PySem.W.Frag} {H : Hp} : ∀ {vs : List V} {ds : List D} {i : Nat} {xs : List T}, Args K H vs ds → ds[i]? ≠ some (.own xs)
  | _, _, _, _, .nil, e => by simp at e
  | _, _, 0, _, .cons h _, e => by
    rw [List.getElem?_cons_zero] at e
    rw [Option.some.inj e] at h
    exact h
  | _, _, i + 1, xs, .cons _ r, e => Args.noown (i := i) (xs := xs) r (by simpa using e)
theorem Args.at' {K : PySem.W.Frag} {H : Hp} : ∀ {vs : List V} {ds : List D} {i : Nat} {d : D}, Args K H vs ds → ds[i]? = some d → ∃ v, vs[i]? = some v ∧ Arg K H v d
  | _, _, _, _, .nil, e => by simp at e
  | _, _, 0, _, .cons h _, e => by
    rw [List.getElem?_cons_zero] at e
    rw [Option.some.inj e] at h
    exact ⟨_, rfl, h⟩
  | _, _, i + 1, d, .cons _ r, e => by
    obtain ⟨v, h1, h2⟩ := Args.at' (i := i) (d := d) r (by simpa using e)
    exact ⟨v, by simpa using h1, h2⟩
theorem env_start {K : PySem.W.Frag} {H : Hp} {N : List Str} {vs : List V} {ds : List D} (h : Args K H vs ds) : EnvD K H H (L2.start N vs) (startD N ds) (fun _ => 0) := by
  have hl := h.length
  have no : ∀ (i : Nat) (xs : List T), (startD N ds)[i]? ≠ some (D.own xs) := fun i xs e => by
    unfold startD at e
    by_cases k : i < ds.length
    · rw [List.getElem?_append_left k] at e
      exact h.noown e
    · rw [List.getElem?_append_right (by omega), List.getElem?_replicate] at e
      split at e <;> cases e
  refine ⟨Same.refl H, ?_, fun i d e => ?_, fun i j xs ys hi => absurd hi (no i xs)⟩
  · unfold L2.start startD
    simp only [List.length_append, List.length_map, List.length_replicate]
    omega
  · unfold startD at e
    unfold L2.start
    by_cases k : i < ds.length
    · rw [List.getElem?_append_left k] at e
      obtain ⟨v, hv, ha⟩ := h.at' e
      rw [List.getElem?_append_left (by rw [List.length_map]; omega), List.getElem?_map, hv]
      cases d with
      | no => trivial
      | t x => exact ha
      | l xs =>
        obtain ⟨b, ws, e1, s, r⟩ := ha
        exact ⟨b, ws, e1, s, fun ⟨j, ys, hj, _⟩ => absurd hj (no j ys), r⟩
      | own xs => exact absurd e h.noown
      | rf a => exact ha.elim
      | ll a => exact ha.elim
    · rw [List.getElem?_append_right (by omega), List.getElem?_replicate] at e
      split at e
      · cases e
        unfold Sl
        split <;> trivial
      · cases e
abbrev W0 : WX := fun _ _ _ _ => False
/-- what a def's body is to reach: r comes back -/
abbrev toRet (r : D) : Po := { nx := fun _ => r = .t .non, rt := fun d => d = r }
section
variable {P : Program} {w : World} {K : PySem.W.Frag} {mg : Str → Option Value} {base : Heap}
/-- THE RULE for a def that raises nothing -/
theorem fn_d {x qual : Str} {st : Stmt} {f : Addr} {fd : FuncData} {N ps : List Str} {k : Nat} {R : List D → D → Prop} (F : Fun K x qual st f fd) (S : FnScope N ps (defScope st)) (len : ∀ ds r, R ds r → ds.length = ps.length)
    (hbody : ∀ (cdv : Value) (A : Around) (outer : List Env) (s : Shared) (H : Hp) (E : XK), Room k (A.deeper (envOfC qual (defScope st) s.heap.objs.size f cdv)) →
      ∃ t, PSs (cxOf CX0 P w K mg base N qual (defScope st) f cdv A outer s H E).nox (defBody st) t ∧ ∀ ds r, R ds r → Sv K W0 t (startD N ds) (toRet r)) : FnOk P w K mg base CX0 (k + 1) f fd ps (spD K R) := by
  refine F.ok S (fun vs H Q E ⟨ds, r, h, ha, _⟩ => by rw [ha.length]; exact len ds r h) (fun cdv A outer s H vs Q E hr ⟨ds, r, h, ha, q⟩ => ?_)
  obtain ⟨t, ht, hs⟩ := hbody cdv A outer s H E hr
  refine ⟨t, ht, hs ds r h H _ _ H _ (env_start ha) ⟨fun G B σ H' e E' _ => ?_, fun r' v H' e hres s' => ?_, fun _ _ _ _ z => z.elim, fun _ _ _ _ z => z.elim, fun _ _ _ _ _ z => z.elim⟩⟩
  · subst e
    exact q .non H' E'.same .non
  · subst e
    exact q v H' s' hres
end
/-! ### a def that may raise -/
inductive Rs where
  | ok (d : D)
  | er (C : Addr)
def spX (K : PySem.W.Frag) (R : List D → Rs → Prop) : Sp := fun vs H Q E => ∃ ds r, R ds r ∧ Args K H vs ds ∧ match r with
  | .ok d => ∀ v H', Same H H' → Res K H H' v d → Q v H'
  | .er C => ∀ H', Same H H' → E (.ref C) none H'
abbrev toRs (r : Rs) : Po := { nx := fun _ => r = .ok (.t .non), rt := fun d => r = .ok d, er := fun C _ => r = .er C }
section
variable {P : Program} {w : World} {K : PySem.W.Frag} {mg : Str → Option Value} {base : Heap}
theorem fn_x {x qual : Str} {st : Stmt} {f : Addr} {fd : FuncData} {N ps : List Str} {k : Nat} {R : List D → Rs → Prop} (F : Fun K x qual st f fd) (S : FnScope N ps (defScope st)) (len : ∀ ds r, R ds r → ds.length = ps.length)
    (hbody : ∀ (cdv : Value) (A : Around) (outer : List Env) (s : Shared) (H : Hp) (E : XK), Room k (A.deeper (envOfC qual (defScope st) s.heap.objs.size f cdv)) →
      ∃ t, PSs (cxOf (L2.CX P w) P w K mg base N qual (defScope st) f cdv A outer s H E) (defBody st) t ∧ ∀ ds r, R ds r → Sv K (fun cls d _ H => E cls d H) t (startD N ds) (toRs r)) : FnOk P w K mg base (L2.CX P w) (k + 1) f fd ps (spX K R) := by
  refine F.okX S (fun vs H Q E ⟨ds, r, h, ha, _⟩ => by rw [ha.length]; exact len ds r h) (fun cdv A outer s H vs Q E hr ⟨ds, r, h, ha, q⟩ => ?_)
  obtain ⟨t, ht, hs⟩ := hbody cdv A outer s H E hr
  refine ⟨t, ht, hs ds r h H _ _ H _ (env_start ha) ⟨fun G B σ H' e E' _ => ?_, fun r' v H' e hres s' => ?_, fun _ _ _ _ z => z.elim, fun _ _ _ _ z => z.elim, fun C G B σ H' e E' _ => ?_⟩⟩
  · subst e
    exact q .non H' E'.same .non
  · subst e
    exact q v H' s' hres
  · subst e
    exact q H' E'.same
end
section
variable {K : PySem.W.Frag} {Γ : List D} {W : WX} {P : Po} {t : TA}
theorem ev_callX {R : List D → Rs → Prop} {ds : List D} {x : T} {E : XK} (ha : EvA K t Γ ds) (hp : R ds (.ok (.t x))) : Ev K (tCall (spX K R) [] E t) Γ x := fun H0 A σ H Q EE q =>
  ha H0 A σ H _ EE fun vs H1 s1 r1 => ⟨ds, _, hp, by rw [List.append_nil]; exact r1, fun v H2 s2 r2 => q v H2 (s1.trans s2) r2⟩
theorem evf_callX {R : List D → Rs → Prop} {ds : List D} {xs : List T} {E : XK} (ha : EvA K t Γ ds) (hp : R ds (.ok (.l xs))) : EvF K (tCall (spX K R) [] E t) Γ xs := fun H0 A σ H Q EE q =>
  ha H0 A σ H _ EE fun vs H1 s1 r1 => ⟨ds, _, hp, by rw [List.append_nil]; exact r1, fun v H2 s2 r2 => by
    obtain ⟨p, ws, rfl, n, e, r⟩ := r2
    exact q p ws H2 (s1.free n) (s1.trans s2) e r⟩
theorem eve_callX {R : List D → Rs → Prop} {ds : List D} {C : Addr} {E : XK} (ha : EvA K t Γ ds) (hp : R ds (.er C)) : EvE K (fun cls d _ H => E cls d H) (tCall (spX K R) [] E t) Γ C := fun H0 A σ H Q EE q =>
  ha H0 A σ H _ EE fun vs H1 s1 r1 => ⟨ds, _, hp, by rw [List.append_nil]; exact r1, fun H2 s2 => q H2 (s1.trans s2)⟩
/-! in a try -/
theorem ev_callS {R : List D → Rs → Prop} {ds : List D} {x : T} {E : L2.St → XK} (ha : EvA K t Γ ds) (hp : R ds (.ok (.t x))) : Ev K (tCallS (spX K R) E t) Γ x := fun H0 A σ H Q EE q =>
  ha H0 A σ H _ EE fun vs H1 s1 r1 => ⟨ds, _, hp, r1, fun v H2 s2 r2 => q v H2 (s1.trans s2) r2⟩
theorem evf_callS {R : List D → Rs → Prop} {ds : List D} {xs : List T} {E : L2.St → XK} (ha : EvA K t Γ ds) (hp : R ds (.ok (.l xs))) : EvF K (tCallS (spX K R) E t) Γ xs := fun H0 A σ H Q EE q =>
  ha H0 A σ H _ EE fun vs H1 s1 r1 => ⟨ds, _, hp, r1, fun v H2 s2 r2 => by
    obtain ⟨p, ws, rfl, n, e, r⟩ := r2
    exact q p ws H2 (s1.free n) (s1.trans s2) e r⟩
theorem eve_callS {R : List D → Rs → Prop} {ds : List D} {C : Addr} (ha : EvA K t Γ ds) (hp : R ds (.er C)) : EvE K W (tCallS (spX K R) (WE W) t) Γ C := fun H0 A σ H Q EE q =>
  ha H0 A σ H _ EE fun vs H1 s1 r1 => ⟨ds, _, hp, r1, fun H2 s2 => q H2 (s1.trans s2)⟩
theorem sv_retE {te : TE} {C : Addr} (h : EvE K W te Γ C) (hr : P.er C Γ) : Sv K W (tRet te) Γ P := fun H0 A σ H E hE M =>
  h H0 A σ H _ hE fun H1 s => M.er C Γ A σ H1 hr (hE.mono s) (.of_same s)
theorem sv_dropE {te : TE} {C : Addr} (h : EvE K W te Γ C) (hr : P.er C Γ) : Sv K W (tDrop te) Γ P := fun H0 A σ H E hE M =>
  h H0 A σ H _ hE fun H1 s => M.er C Γ A σ H1 hr (hE.mono s) (.of_same s)
theorem sv_asgE {te : TE} {g : TG} {C : Addr} (h : EvE K W te Γ C) (hr : P.er C Γ) : Sv K W (tAsg te g) Γ P := fun H0 A σ H E hE M =>
  h H0 A σ H _ hE fun H1 s => M.er C Γ A σ H1 hr (hE.mono s) (.of_same s)
/-- try: .. except c as n (slot i): R C G: what is known where C is raised -/
theorem sv_tryAs {c : Value} {i : Nat} {tb : WX → TS} {ts : Addr → Value → Option Addr → TS} {Wout : WX} (R : Addr → List D → Prop) (hb : ∀ W', Sv K W' (tb W') Γ { P with er := R })
    (hc : ∀ C G, R C G → PySem.W.exmOne K (.ref C) c = some true) (hs : ∀ C G a, R C G → Sv K W0 (ts a (.ref C) none) (G.set i (.rf a)) { nx := fun G' => P.nx (G'.set i .no), rt := P.rt, bk := fun G' => P.bk (G'.set i .no), ct := fun G' => P.ct (G'.set i .no) }) :
    Sv K Wout (fun D σ H => tb (wAs K c i ts Wout D) D σ H) Γ P := fun H0 A σ H E hE M =>
  hb _ H0 A σ H E hE ⟨M.nx, M.rt, M.bk, M.ct, fun C G B σ1 H1 hR e g => ⟨true, hc C G hR, fun _ a _ => by
    have e2 : EnvD K H0 H1 (σ1.set i (some (.ref a))) (G.set i (.rf a)) B := e.put (fun _ z => nomatch z) rfl
    have g2 : Go Γ A H (G.set i (.rf a)) B H1 := g.trans (Go.put fun _ z => nomatch z)
    have gw : ∀ {G1 B1 H3}, Go (G.set i (.rf a)) B H1 G1 B1 H3 → Go Γ A H (G1.set i .no) B1 H3 := fun gg => (g2.trans gg).trans (Go.put fun _ z => nomatch z)
    exact hs C G a hR H0 B _ H1 _ e2 ⟨fun G' B' σ' H' p e' gg => M.nx _ B' _ H' p (e'.wipe1 i) (gw gg), M.rt, fun G' B' σ' H' p e' gg => M.bk _ B' _ H' p (e'.wipe1 i) (gw gg), fun G' B' σ' H' p e' gg => M.ct _ B' _ H' p (e'.wipe1 i) (gw gg), fun _ _ _ _ _ z => z.elim⟩,
    fun z => nomatch z⟩⟩
theorem sv_tryOnly {c : Value} {tb : WX → TS} {ts : Addr → Value → Option Addr → TS} {Wout : WX} (R : Addr → List D → Prop) (hb : ∀ W', Sv K W' (tb W') Γ { P with er := R })
    (hc : ∀ C G, R C G → PySem.W.exmOne K (.ref C) c = some true) (hs : ∀ C G a, R C G → Sv K W0 (ts a (.ref C) none) G { P with er := fun _ _ => False }) :
    Sv K Wout (fun D σ H => tb (wOnly K c ts Wout D) D σ H) Γ P := fun H0 A σ H E hE M =>
  hb _ H0 A σ H E hE ⟨M.nx, M.rt, M.bk, M.ct, fun C G B σ1 H1 hR e g => ⟨true, hc C G hR, fun _ a _ =>
    hs C G a hR H0 B σ1 H1 E e ⟨fun G' B' σ' H' p e' gg => M.nx _ B' _ H' p e' (g.trans gg), M.rt, fun G' B' σ' H' p e' gg => M.bk _ B' _ H' p e' (g.trans gg), fun G' B' σ' H' p e' gg => M.ct _ B' _ H' p e' (g.trans gg), fun _ _ _ _ _ z => z.elim⟩,
    fun z => nomatch z⟩⟩
/-- isinstance(e, c), e what the suite holds -/
theorem ev_isE {i : Nat} {a C : Addr} {c : V} {cv : Value} {b : Bool} (h : Γ[i]? = some (.rf a)) (hc : ∀ u, RelV c u → u = cv) (k : PySem.W.kitOne K (.ref C) cv = some b) : Ev K (tCB (rIsE K C a) (tCons (tVar i) (tCons (tC c) tNil))) Γ (.bl b) := fun H0 A σ H Q E q =>
  ⟨_, E.rv h, c, cv, b, rfl, hc, k, q _ H (Same.refl H) (.bl b)⟩
/-- isinstance(x, c) of data -/
theorem ev_isi {te : TE} {x : T} {c : V} {u : Value} {b : Bool} (h : Ev K te Γ x) (hc : ClsV c u) (k : ∀ v H, Rp K H v x → ∃ t, TyX K H v t ∧ PySem.W.kitOne K t u = some b) : Ev K (tCB (rIsi K) (tCons te (tCons (tC c) tNil))) Γ (.bl b) := fun H0 A σ H Q E q =>
  h H0 A σ H _ E fun v H1 s r => by
    obtain ⟨t, ty, kk⟩ := k v H1 r
    exact ⟨v, c, t, u, b, rfl, hc, ty, kk, q _ H1 s (.bl b)⟩
end
end Cz

namespace Cz
open PySem PySem.Spec PyProof.Rows L2

/-! ### rows and tables -/
structure Row where
  x : Int
  y : Int
  z : Int
  deriving DecidableEq
structure Mat where
  a : Row
  b : Row
  c : Row
  deriving DecidableEq
theorem Row.ext' {r s : Row} (h1 : r.x = s.x) (h2 : r.y = s.y) (h3 : r.z = s.z) : r = s := by
  cases r; cases s; simp_all
theorem Mat.ext' {m n : Mat} (h1 : m.a = n.a) (h2 : m.b = n.b) (h3 : m.c = n.c) : m = n := by
  cases m; cases n; simp_all
def dot (r s : Row) : Int := r.x * s.x + r.y * s.y + r.z * s.z
def cross (r s : Row) : Row := ⟨r.y * s.z - r.z * s.y, r.z * s.x - r.x * s.z, r.x * s.y - r.y * s.x⟩
def Mat.tr (m : Mat) : Mat := ⟨⟨m.a.x, m.b.x, m.c.x⟩, ⟨m.a.y, m.b.y, m.c.y⟩, ⟨m.a.z, m.b.z, m.c.z⟩⟩
def image (m : Mat) (r : Row) : Row := ⟨dot m.a r, dot m.b r, dot m.c r⟩
def mul (m n : Mat) : Mat := ⟨image n.tr m.a, image n.tr m.b, image n.tr m.c⟩
def det (m : Mat) : Int := dot (cross m.a m.b) m.c
def adj (m : Mat) : Mat := Mat.tr ⟨cross m.b m.c, cross m.c m.a, cross m.a m.b⟩
def one : Mat := ⟨⟨1, 0, 0⟩, ⟨0, 1, 0⟩, ⟨0, 0, 1⟩⟩
def smul (k : Int) (m : Mat) : Mat := ⟨⟨k * m.a.x, k * m.a.y, k * m.a.z⟩, ⟨k * m.b.x, k * m.b.y, k * m.b.z⟩, ⟨k * m.c.x, k * m.c.y, k * m.c.z⟩⟩
theorem image_mul (m n : Mat) (r : Row) : image (mul m n) r = image m (image n r) := by
  apply Row.ext' <;> (simp only [image, mul, Mat.tr, dot]; grind)
theorem mul_assoc (m n k : Mat) : mul (mul m n) k = mul m (mul n k) := by
  apply Mat.ext' <;> apply Row.ext' <;> (simp only [image, mul, Mat.tr, dot]; grind)
theorem det_mul (m n : Mat) : det (mul m n) = det m * det n := by
  simp only [image, mul, Mat.tr, dot, det, cross]; grind
theorem mul_one' (m : Mat) : mul m one = m := by
  apply Mat.ext' <;> apply Row.ext' <;> (simp only [image, mul, Mat.tr, dot, one]; grind)
theorem one_mul' (m : Mat) : mul one m = m := by
  apply Mat.ext' <;> apply Row.ext' <;> (simp only [image, mul, Mat.tr, dot, one]; grind)
theorem mul_adj (m : Mat) : mul m (adj m) = smul (det m) one := by
  apply Mat.ext' <;> apply Row.ext' <;> (simp only [image, mul, Mat.tr, dot, one, adj, smul, det, cross]; grind)
theorem adj_mul (m : Mat) : mul (adj m) m = smul (det m) one := by
  apply Mat.ext' <;> apply Row.ext' <;> (simp only [image, mul, Mat.tr, dot, one, adj, smul, det, cross]; grind)
theorem image_one (r : Row) : image one r = r := by
  apply Row.ext' <;> (simp only [image, dot, one]; grind)

/-! ### sizes -/
theorem Sm.of {x : Int} (n : Nat) (h : x.natAbs < 2 ^ n) : Sm n x := h
theorem Sm.add' {n m : Nat} {x y : Int} (h : Sm n x) (k : Sm m y) : Sm (n + m + 1) (x + y) := (h.add k).mono (by omega)
theorem Sm.sub' {n m : Nat} {x y : Int} (h : Sm n x) (k : Sm m y) : Sm (n + m + 1) (x - y) := (h.sub k).mono (by omega)
theorem Sm.add2 {n : Nat} {x y : Int} (h : Sm n x) (k : Sm n y) : Sm (n + 1) (x + y) := (h.add k).mono (by omega)
theorem Sm.sub2 {n : Nat} {x y : Int} (h : Sm n x) (k : Sm n y) : Sm (n + 1) (x - y) := (h.sub k).mono (by omega)
structure Row.sm (n : Nat) (r : Row) : Prop where
  x : Sm n r.x
  y : Sm n r.y
  z : Sm n r.z
structure Mat.sm (n : Nat) (m : Mat) : Prop where
  a : m.a.sm n
  b : m.b.sm n
  c : m.c.sm n
theorem Row.sm.mono {n m : Nat} {r : Row} (h : r.sm n) (k : n ≤ m) : r.sm m := ⟨h.x.mono k, h.y.mono k, h.z.mono k⟩
theorem Mat.sm.mono {n m : Nat} {r : Mat} (h : r.sm n) (k : n ≤ m) : r.sm m := ⟨h.a.mono k, h.b.mono k, h.c.mono k⟩
theorem sm_dot {n m : Nat} {r s : Row} (h : r.sm n) (k : s.sm m) : Sm (n + m + 2) (dot r s) := ((h.x.mul k.x).add2 (h.y.mul k.y)).add2 ((h.z.mul k.z).mono (Nat.le_succ _))
theorem sm_cross {n m : Nat} {r s : Row} (h : r.sm n) (k : s.sm m) : (cross r s).sm (n + m + 1) := ⟨(h.y.mul k.z).sub2 (h.z.mul k.y), (h.z.mul k.x).sub2 (h.x.mul k.z), (h.x.mul k.y).sub2 (h.y.mul k.x)⟩
theorem sm_image {n k : Nat} {m : Mat} {r : Row} (h : m.sm n) (q : r.sm k) : (image m r).sm (n + k + 2) := ⟨sm_dot h.a q, sm_dot h.b q, sm_dot h.c q⟩
theorem sm_tr {n : Nat} {m : Mat} (h : m.sm n) : m.tr.sm n := ⟨⟨h.a.x, h.b.x, h.c.x⟩, ⟨h.a.y, h.b.y, h.c.y⟩, ⟨h.a.z, h.b.z, h.c.z⟩⟩
theorem sm_mul {n k : Nat} {m q : Mat} (h : m.sm n) (g : q.sm k) : (mul m q).sm (n + k + 2) := by
  have e : k + n + 2 = n + k + 2 := by omega
  exact ⟨e ▸ sm_image (sm_tr g) h.a, e ▸ sm_image (sm_tr g) h.b, e ▸ sm_image (sm_tr g) h.c⟩
theorem sm_det {n : Nat} {m : Mat} (h : m.sm n) : Sm (3 * n + 3) (det m) := (sm_dot (sm_cross h.a h.b) h.c).mono (by omega)
theorem sm_adj {n : Nat} {m : Mat} (h : m.sm n) : (adj m).sm (2 * n + 1) := sm_tr ⟨(sm_cross h.b h.c).mono (by omega), (sm_cross h.c h.a).mono (by omega), (sm_cross h.a h.b).mono (by omega)⟩

/-! ### their data -/
abbrev row (r : Row) : T := .tup [.int r.x, .int r.y, .int r.z]
abbrev mat (m : Mat) : T := .tup [row m.a, row m.b, row m.c]
def intsT (ns : List Int) : List T := ns.map T.int
theorem intsT_at {ns : List Int} {i : Nat} {n : Int} (h : ns[i]? = some n) : (intsT ns)[i]? = some (.int n) := by unfold intsT; rw [List.getElem?_map, h]; rfl
theorem intsT_len (ns : List Int) : (intsT ns).length = ns.length := by unfold intsT; rw [List.length_map]
section
variable {K : PySem.W.Frag} {Γ : List D} {W : WX} {P : Po}
/-- items of a display -/
def EvTs (K : PySem.W.Frag) (t : TA) (Γ : List D) (ts : List T) : Prop := EvA K t Γ (ts.map D.t)
theorem evt_nil : EvTs K tNil Γ [] := eva_nil
theorem evt_cons {ta : TE} {tr : TA} {x : T} {xs : List T} (h : Ev K ta Γ x) (k : EvTs K tr Γ xs) : EvTs K (tCons ta tr) Γ (x :: xs) := eva_t h k
theorem ev_tups {t : TA} {ts : List T} (h : EvTs K t Γ ts) (z : ts.length ≤ 1000) : Ev K (tTup t) Γ (.tup ts) := ev_tup ts h rfl z
theorem evf_lsts {t : TA} {ts : List T} (h : EvTs K t Γ ts) (z : ts.length ≤ 1000) : EvF K (tLst t) Γ ts := evf_lst ts h rfl z
theorem ev_row {ta tb tc : TE} {a b c : Int} (h1 : Ev K ta Γ (.int a)) (h2 : Ev K tb Γ (.int b)) (h3 : Ev K tc Γ (.int c)) : Ev K (tTup (tCons ta (tCons tb (tCons tc tNil)))) Γ (row ⟨a, b, c⟩) :=
  ev_tups (evt_cons h1 (evt_cons h2 (evt_cons h3 evt_nil))) (by show 3 ≤ 1000; decide)
theorem ev_mat {ta tb tc : TE} {a b c : Row} (h1 : Ev K ta Γ (row a)) (h2 : Ev K tb Γ (row b)) (h3 : Ev K tc Γ (row c)) : Ev K (tTup (tCons ta (tCons tb (tCons tc tNil)))) Γ (mat ⟨a, b, c⟩) :=
  ev_tups (evt_cons h1 (evt_cons h2 (evt_cons h3 evt_nil))) (by show 3 ≤ 1000; decide)
/-- a, b = x, y -/
theorem sv_par2 {ta tb : TE} {i j : Nat} {x y : T} (h1 : Ev K ta Γ x) (h2 : Ev K tb Γ y) (n : P.nx ((Γ.set i (.t x)).set j (.t y))) : Sv K W (tPar i j (tCons ta (tCons tb tNil))) Γ P := fun H0 A σ H E hE M =>
  h1 H0 A σ H _ hE fun v H1 s1 r1 => h2 H0 A σ H1 _ (hE.mono s1) fun w H2 s2 r2 =>
    ⟨v, w, rfl, M.nx _ _ _ H2 n ((((hE.mono s1).mono s2).setT (Rp.mono (Imm.of_same s2) r1)).setT r2) ((Go.setT.trans Go.setT).same_then (s1.trans s2))⟩
theorem sv_par3 {ta tb tc : TE} {i j l : Nat} {x y z : T} (h1 : Ev K ta Γ x) (h2 : Ev K tb Γ y) (h3 : Ev K tc Γ z) (n : P.nx (((Γ.set i (.t x)).set j (.t y)).set l (.t z))) : Sv K W (tPar3 i j l (tCons ta (tCons tb (tCons tc tNil)))) Γ P := fun H0 A σ H E hE M =>
  h1 H0 A σ H _ hE fun v H1 s1 r1 => h2 H0 A σ H1 _ (hE.mono s1) fun w H2 s2 r2 => h3 H0 A σ H2 _ ((hE.mono s1).mono s2) fun u H3 s3 r3 =>
    ⟨v, w, u, rfl, M.nx _ _ _ H3 n ((((((hE.mono s1).mono s2).mono s3).setT (Rp.mono (Imm.of_same (s2.trans s3)) r1)).setT (Rp.mono (Imm.of_same s3) r2)).setT r3) (((Go.setT.trans Go.setT).trans Go.setT).same_then (s1.trans (s2.trans s3)))⟩
end

/-! ### short loops; a table of lists with one item set -/
section
variable {K : PySem.W.Frag} {Γ : List D} {W : WX} {P : Po}
/-- for k in range(3) -/
theorem sv_range3 {k : Nat} {tb : TS} {G1 G2 G3 : List D} (h0 : Sv K W tb (Γ.set k (.t (.int 0))) { P with nx := fun G => G = G1, ct := fun G => G = G1, bk := P.nx }) (h1 : Sv K W tb (G1.set k (.t (.int 1))) { P with nx := fun G => G = G2, ct := fun G => G = G2, bk := P.nx })
    (h2 : Sv K W tb (G2.set k (.t (.int 2))) { P with nx := fun G => G = G3, ct := fun G => G = G3, bk := P.nx }) (n : P.nx G3) : Sv K W (tFor (iRng1 (tCons (tC (.int 3)) tNil)) (gName k) tb) Γ P :=
  sv_range1 (n := 3) (fun i G => G = match i with | 0 => Γ | 1 => G1 | 2 => G2 | _ => G3) ev_int (by decide) rfl (fun i G hi hG => match i, hi, hG with
    | 0, _, hG => ⟨_, gd_name k _, by rw [hG]; exact h0⟩
    | 1, _, hG => ⟨_, gd_name k _, by rw [hG]; exact h1⟩
    | 2, _, hG => ⟨_, gd_name k _, by rw [hG]; exact h2⟩
    | j + 3, hi, _ => absurd hi (by show ¬ (j + 3 < 3); omega)) (fun G hG => by rw [hG]; exact n)
theorem EvL.put_no {t : TE} {x : T} {L : Nat} (h : Ev K t (Γ.set L .no) x) : Ev K t (Γ.set L .no) x := h
def oneL : List (List T) := [[.int 1, .int 0, .int 0], [.int 0, .int 1, .int 0], [.int 0, .int 0, .int 1]]
def setL (i j : Nat) (v : Int) : List (List T) := oneL.set i ((oneL.getD i []).set j (.int v))
abbrev tInts3 (a b c : Int) : TE := tLst (tCons (tC (.int a)) (tCons (tC (.int b)) (tCons (tC (.int c)) tNil)))
/-- lines = [[1, 0, 0], [0, 1, 0], [0, 0, 1]]; lines[a][b] = v -/
theorem sv_lines {u : TS} {te ta tb : TE} {L : Nat} {a b v : Int} {i j : Nat} (hL : L < Γ.length) (he : Ev K te (Γ.set L .no) (.int v)) (ha : Ev K ta (Γ.set L .no) (.int a)) (hb : Ev K tb (Γ.set L .no) (.int b))
    (hi : ixN 3 a = some i) (hj : ixN 3 b = some j) (k : Sv K W u (Γ.set L (.ll (setL i j v))) P) :
    Sv K W (tSeq (tAsg (tLst (tCons (tInts3 1 0 0) (tCons (tInts3 0 1 0) (tCons (tInts3 0 0 1) tNil)))) (gName L)) (tSeq (tAsg te (gSub (tOp (rIxL K) (tVar L) ta) tb rSetL)) u)) Γ P := fun H0 A σ H E hE M => by
  have z3 : ([V.int 1, V.int 0, V.int 0] : List V).length ≤ sizeLine := by show 3 ≤ sizeLine; decide
  have i3 : i < 3 := (ixN_seq hi).2.1
  refine ⟨by show 3 ≤ sizeLine; decide, fun r0 n0 => ⟨by show 3 ≤ sizeLine; decide, fun r1 n1 => ⟨by show 3 ≤ sizeLine; decide, fun r2 n2 => ⟨by show 3 ≤ sizeLine; decide, fun l nl => ?_⟩⟩⟩⟩
  obtain ⟨H1, e1⟩ : ∃ H1, H1 = upd H r0 (.lst [.int 1, .int 0, .int 0]) := ⟨_, rfl⟩
  rw [← e1] at n1 n2 nl ⊢
  obtain ⟨H2, e2⟩ : ∃ H2, H2 = upd H1 r1 (.lst [.int 0, .int 1, .int 0]) := ⟨_, rfl⟩
  rw [← e2] at n2 nl ⊢
  obtain ⟨H3, e3⟩ : ∃ H3, H3 = upd H2 r2 (.lst [.int 0, .int 0, .int 1]) := ⟨_, rfl⟩
  rw [← e3] at nl ⊢
  obtain ⟨H4, e4⟩ : ∃ H4, H4 = upd H3 l (.lst [.ref r0, .ref r1, .ref r2]) := ⟨_, rfl⟩
  rw [← e4]
  have s1 : Same H H1 := e1 ▸ same_upd n0
  have s2 : Same H1 H2 := e2 ▸ same_upd n1
  have s3 : Same H2 H3 := e3 ▸ same_upd n2
  have s4 : Same H3 H4 := e4 ▸ same_upd nl
  have s04 : Same H H4 := s1.trans (s2.trans (s3.trans s4))
  have q0 : H1 r0 = some (.lst [.int 1, .int 0, .int 0]) := e1 ▸ upd_same
  have q1 : H2 r1 = some (.lst [.int 0, .int 1, .int 0]) := e2 ▸ upd_same
  have q2 : H3 r2 = some (.lst [.int 0, .int 0, .int 1]) := e3 ▸ upd_same
  have ql : H4 l = some (.lst [.ref r0, .ref r1, .ref r2]) := e4 ▸ upd_same
  have q0' : H4 r0 = _ := s4 _ _ (s3 _ _ (s2 _ _ q0))
  have q1' : H4 r1 = _ := s4 _ _ (s3 _ _ q1)
  have q2' : H4 r2 = _ := s4 _ _ q2
  have d01 : r0 ≠ r1 := ne_of_none q0 n1
  have d02 : r0 ≠ r2 := ne_of_none (s2 _ _ q0) n2
  have d12 : r1 ≠ r2 := ne_of_none q1 n2
  have d0l : r0 ≠ l := ne_of_none (s3 _ _ (s2 _ _ q0)) nl
  have d1l : r1 ≠ l := ne_of_none (s3 _ _ q1) nl
  have d2l : r2 ≠ l := ne_of_none q2 nl
  have f0 : H r0 = none := n0
  have f1 : H r1 = none := s1.free n1
  have f2 : H r2 = none := s1.free (s2.free n2)
  have fl : H l = none := s1.free (s2.free (s3.free nl))
  have E4 : EnvD K H0 H4 (σ.set L (some (.ref l))) (Γ.set L .no) A := (hE.mono s04).put (fun _ z => nomatch z) True.intro
  have σL : (σ.set L (some (V.ref l)))[L]? = some (some (.ref l)) := List.getElem?_set_self (by rw [hE.len]; exact hL)
  refine he H0 A _ H4 _ E4 fun w H5 s5 r5 => ?_
  cases r5
  refine ⟨_, σL, ha H0 A _ H5 _ (E4.mono s5) fun w6 H6 s6 r6 => ?_⟩
  cases r6
  have s56 := s5.trans s6
  obtain ⟨p, ws, xs, hp, hpx, hws, fp, pl, wl⟩ : ∃ (p : Addr) (ws : List V) (xs : List T), ([V.ref r0, V.ref r1, V.ref r2])[i]? = some (V.ref p) ∧ H4 p = some (.lst ws) ∧ (∀ G, Rps K G ws (oneL.getD i [])) ∧ H p = none ∧ p ≠ l ∧ ws.length = 3 := by
    match i, i3 with
    | 0, _ => exact ⟨r0, _, oneL.getD 0 [], rfl, q0', fun G => .cons (.int _) (.cons (.int _) (.cons (.int _) .nil)), f0, d0l, rfl⟩
    | 1, _ => exact ⟨r1, _, oneL.getD 1 [], rfl, q1', fun G => .cons (.int _) (.cons (.int _) (.cons (.int _) .nil)), f1, d1l, rfl⟩
    | 2, _ => exact ⟨r2, _, oneL.getD 2 [], rfl, q2', fun G => .cons (.int _) (.cons (.int _) (.cons (.int _) .nil)), f2, d2l, rfl⟩
    | n + 3, h => exact absurd h (by omega)
  refine ⟨l, _, a, .ref p, rfl, rfl, .of (s56 _ _ ql), ?_, ?_⟩
  · unfold L2.atI
    show (ixN 3 a).bind _ = _
    rw [hi]
    exact hp
  refine hb H0 A _ H6 _ (E4.mono s56) fun w7 H7 s7 r7 => ?_
  cases r7
  have s57 := s56.trans s7
  refine ⟨p, ws, b, j, rfl, rfl, s57 _ _ hpx, by rw [wl]; exact hj, ?_⟩
  have sE : Same H (upd H7 p (.lst (ws.set j (.int v)))) := fun c o q => by
    rw [upd_ne (ne_of_none q fp)]
    exact s57 _ _ (s04 _ _ q)
  have noown : ∀ c, H c = none → ¬ IsOwn (Γ.set L (.ll (setL i j v))) A c := fun c n z => by
    obtain ⟨_, vs, y⟩ := hE.own_lst (IsOwn.of_set (d := D.ll (setL i j v)) (fun _ y => by cases y) z)
    rw [n] at y
    cases y
  have EF := (hE.mono sE).put (k := L) (o := some (.ref l)) (d := .ll (setL i j v)) (fun _ z => by cases z) ⟨l, [.ref r0, .ref r1, .ref r2], rfl, ⟨.of (by rw [upd_ne pl.symm]; exact s57 _ _ ql), fun z => absurd z (noown l fl)⟩, by
    have rr : ∀ (c : Addr) (ws' : List V) (n : H c = none), c ≠ p → H4 c = some (.lst ws') → LRd K (upd H7 p (.lst (ws.set j (.int v)))) (IsOwn (Γ.set L (.ll (setL i j v))) A) c ws' := fun c ws' n d q => ⟨.of (by rw [upd_ne d]; exact s57 _ _ q), fun z => absurd z (noown c n)⟩
    have rp : LRd K (upd H7 p (.lst (ws.set j (.int v)))) (IsOwn (Γ.set L (.ll (setL i j v))) A) p (ws.set j (.int v)) := ⟨.of upd_same, fun z => absurd z (noown p fp)⟩
    have rs : Rps K (upd H7 p (.lst (ws.set j (.int v)))) (ws.set j (.int v)) ((oneL.getD i []).set j (.int v)) := Rps.set (.int v) j (hws _)
    unfold setL at *
    match i, i3, hp with
    | 0, _, hp =>
      cases hp
      exact .cons rp rs (.cons (rr r1 _ f1 d01.symm q1') (.cons (.int _) (.cons (.int _) (.cons (.int _) .nil))) (.cons (rr r2 _ f2 d02.symm q2') (.cons (.int _) (.cons (.int _) (.cons (.int _) .nil))) .nil))
    | 1, _, hp =>
      cases hp
      exact .cons (rr r0 _ f0 d01 q0') (.cons (.int _) (.cons (.int _) (.cons (.int _) .nil))) (.cons rp rs (.cons (rr r2 _ f2 d12.symm q2') (.cons (.int _) (.cons (.int _) (.cons (.int _) .nil))) .nil))
    | 2, _, hp =>
      cases hp
      exact .cons (rr r0 _ f0 d02 q0') (.cons (.int _) (.cons (.int _) (.cons (.int _) .nil))) (.cons (rr r1 _ f1 d12 q1') (.cons (.int _) (.cons (.int _) (.cons (.int _) .nil))) (.cons rp rs .nil))
    | n + 3, h, _ => exact absurd h (by omega)⟩
  exact k H0 A _ _ E EF (M.after ((Go.of_same sE).trans (Go.put fun _ z => by cases z)))
end

/-! ### == of such data -/
theorem eqv_int (i j : Int) : PyData.eqv (.int i) (.int j) = decide (i = j) := by simp [PyData.eqv, Bool.beq_eq_decide_eq]
theorem eqv_row (r s : Row) : PyData.eqv (T.py (row r)) (T.py (row s)) = decide (r = s) := by
  show PyData.eqv (.tuple [.int r.x, .int r.y, .int r.z]) (.tuple [.int s.x, .int s.y, .int s.z]) = _
  rw [PyData.eqv]
  simp only [PyData.eqvAll, eqv_int]
  cases r
  cases s
  simp
theorem eqv_mat (m n : Mat) : PyData.eqv (T.py (mat m)) (T.py (mat n)) = decide (m = n) := by
  have e : PyData.eqv (T.py (mat m)) (T.py (mat n)) = (PyData.eqv (T.py (row m.a)) (T.py (row n.a)) && (PyData.eqv (T.py (row m.b)) (T.py (row n.b)) && (PyData.eqv (T.py (row m.c)) (T.py (row n.c)) && true))) := by
    show PyData.eqv (.tuple [T.py (row m.a), T.py (row m.b), T.py (row m.c)]) (.tuple [T.py (row n.a), T.py (row n.b), T.py (row n.c)]) = _
    rw [PyData.eqv]
    simp only [PyData.eqvAll]
  rw [e, eqv_row, eqv_row, eqv_row]
  cases m
  cases n
  simp
theorem pl_row (r : Row) : Pl (row r) := ⟨rfl, by rfl⟩
theorem pl_mat (m : Mat) : Pl (mat m) := ⟨rfl, by rfl⟩
theorem ev_eqR {K : PySem.W.Frag} {Γ : List D} {ta tb : TE} {r s : Row} (h : Ev K ta Γ (row r)) (k : Ev K tb Γ (row s)) : Ev K (tOp (rEqD K) ta tb) Γ (.bl (decide (r = s))) := ev_eq (ev_eqD (pl_row r) (pl_row s) h k) (by rw [eqv_row])
theorem ev_neR {K : PySem.W.Frag} {Γ : List D} {ta tb : TE} {r s : Row} (h : Ev K ta Γ (row r)) (k : Ev K tb Γ (row s)) : Ev K (tOp (rNeD K) ta tb) Γ (.bl (!decide (r = s))) := ev_eq (ev_neD (pl_row r) (pl_row s) h k) (by rw [eqv_row])
theorem ev_eqM {K : PySem.W.Frag} {Γ : List D} {ta tb : TE} {r s : Mat} (h : Ev K ta Γ (mat r)) (k : Ev K tb Γ (mat s)) : Ev K (tOp (rEqD K) ta tb) Γ (.bl (decide (r = s))) := ev_eq (ev_eqD (pl_mat r) (pl_mat s) h k) (by rw [eqv_mat])
theorem ev_neM {K : PySem.W.Frag} {Γ : List D} {ta tb : TE} {r s : Mat} (h : Ev K ta Γ (mat r)) (k : Ev K tb Γ (mat s)) : Ev K (tOp (rNeD K) ta tb) Γ (.bl (!decide (r = s))) := ev_eq (ev_neD (pl_mat r) (pl_mat s) h k) (by rw [eqv_mat])
/-- a draw out of a list by a remainder -/
theorem atI_nat' {ts : List T} {i : Int} {j : Nat} {t : T} (e : i = (j : Int)) (h : ts[j]? = some t) : L2.atI ts i = some t := by
  rw [e]
  exact atI_nat h
end Cz

namespace Cz
open PySem PyProof.Rows L2
theorem lt_ok {n m : Nat} (h : Nat.ble (n + 1) m = true) : n < m := Nat.le_of_ble_eq_true h
theorem le_ok {n m : Nat} (h : Nat.ble n m = true) : n ≤ m := Nat.le_of_ble_eq_true h
instance (n : Nat) (x : Int) : Decidable (Sm n x) := inferInstanceAs (Decidable (x.natAbs < 2 ^ n))
theorem Sm.emod {x m : Int} {n : Nat} (h : 0 < m) (k : m.natAbs ≤ 2 ^ n) : Sm n (x % m) := by
  have h1 := Int.emod_nonneg x (by omega : m ≠ 0)
  have h2 := Int.emod_lt_of_pos x h
  unfold Sm
  omega
theorem Sm.bit {b : Bool} : Sm 1 (if b = true then 1 else 0) := by
  cases b <;> decide
theorem Sm.abs {x : Int} {n : Nat} (h : Sm n x) : Sm n (if x < 0 then -x else x) := by
  unfold Sm at *
  split <;> omega
section
variable {K : PySem.W.Frag} {Γ : List D} {W : WX} {P : Po} {ta tb : TE}
theorem ev_asrow {t : TE} {a b c : Int} (h : Ev K t Γ (.tup [.int a, .int b, .int c])) : Ev K t Γ (row ⟨a, b, c⟩) := h
theorem ev_asmat {t : TE} {a b c : Row} (h : Ev K t Γ (.tup [row a, row b, row c])) : Ev K t Γ (mat ⟨a, b, c⟩) := h
/-! in, not in, of ints -/
theorem inV_ints (i : Int) : ∀ ns : List Int, inV (.int i) (ns.map V.int) = decide (i ∈ ns)
  | [] => by simp [inV]
  | n :: ns => by
    have ih := inV_ints i ns
    unfold inV at *
    rw [List.map_cons, List.any_cons, ih]
    have e : eqV (.int n) (.int i) = decide (i = n) := by
      show (n == i) = decide (i = n)
      rw [Bool.beq_eq_decide_eq]
      by_cases h : n = i
      · subst h; rfl
      · rw [decide_eq_false h, decide_eq_false (fun z => h z.symm)]
    rw [e]
    by_cases h : i = n <;> simp [h]
theorem flat_ints : ∀ ns : List Int, (ns.map V.int).all flatV = true
  | [] => rfl
  | n :: ns => by rw [List.map_cons, List.all_cons, flat_ints ns]; rfl
theorem ev_inT {i : Int} (ns : List Int) (ha : Ev K ta Γ (.int i)) (hb : Ev K tb Γ (.tup (ns.map T.int))) : Ev K (tOp (rIn K false) ta tb) Γ (.bl (decide (i ∈ ns))) :=
  ev_op ha hb fun v w H Q r1 r2 q => by
    cases r1
    cases r2 with
    | tup s r =>
      have e := r.ints_of
      subst e
      refine ⟨_, _, rfl, .inr s, rfl, flat_ints ns, ?_⟩
      show Q (.bl (inV (.int i) (ns.map V.int))) H
      rw [inV_ints]
      exact q _ H (Same.refl H) (.bl _)
theorem ev_notInT {i : Int} (ns : List Int) (ha : Ev K ta Γ (.int i)) (hb : Ev K tb Γ (.tup (ns.map T.int))) : Ev K (tOp (rIn K true) ta tb) Γ (.bl (!decide (i ∈ ns))) :=
  ev_op ha hb fun v w H Q r1 r2 q => by
    cases r1
    cases r2 with
    | tup s r =>
      have e := r.ints_of
      subst e
      refine ⟨_, _, rfl, .inr s, rfl, flat_ints ns, ?_⟩
      show Q (.bl (!inV (.int i) (ns.map V.int))) H
      rw [inV_ints]
      exact q _ H (Same.refl H) (.bl _)
/-! isinstance of data and a built-in type -/
def tyT : T → Option String
  | .non => some "NoneType"
  | .bl _ => some "bool"
  | .int _ => some "int"
  | .str _ => some "str"
  | .tup _ => some "tuple"
  | .obj _ _ _ => none
theorem tyx_of {H : Hp} {v : V} {x : T} {n : String} (r : Rp K H v x) (h : tyT x = some n) : TyX K H v (.type n) := by
  cases r with
  | non => cases h; exact .base .non
  | bl b => cases h; exact .base (.bl b)
  | int i => cases h; exact .base (.int i)
  | str s => cases h; exact .base (.str s)
  | tup s _ =>
    cases h
    rcases s with (s | ⟨o, s⟩) | ⟨o, its, n, k, c, _⟩
    · exact .base (.tup s)
    · exact .fTuple s
    · exact .kTuple k c
  | obj _ _ _ => cases h
theorem ev_isT {te : TE} {x : T} {n m : String} {b : Bool} (h : Ev K te Γ x) (hx : tyT x = some n) (k : kitB n m = some b) : Ev K (tCB (rIsi K) (tCons te (tCons (tC (.ty m)) tNil))) Γ (.bl b) :=
  ev_isi h (.ty m) fun v H r => ⟨_, tyx_of r hx, kit_ty k⟩
/-! lists of ints -/
def dr (ds : List Int) (j : Nat) : Int := ds.getD j 0
theorem dr_get {ds : List Int} {j : Nat} (h : j < ds.length) : ds[j]? = some (dr ds j) := by
  unfold dr
  simp [List.getD, List.getElem?_eq_getElem h]
theorem dr_at {ds : List Int} {j : Nat} {i : Int} (e : i = (j : Int)) (h : j < ds.length) : L2.atI (intsT ds) i = some (.int (dr ds j)) := atI_nat' e (intsT_at (dr_get h))
theorem dr_at' {ds : List Int} {i : Int} (h0 : 0 ≤ i) (h : i.toNat < ds.length) : L2.atI (intsT ds) i = some (.int (dr ds i.toNat)) := dr_at (Int.toNat_of_nonneg h0).symm h
theorem dr_drop (ds : List Int) (k j : Nat) : dr (ds.drop k) j = dr ds (k + j) := by
  unfold dr
  simp [List.getD, List.getElem?_drop]
theorem sIx_from (n k : Nat) (xs : List T) : (xs.drop (HT.sIx xs.length 0 (some (k : Int)))).take (HT.sIx xs.length xs.length none - HT.sIx xs.length 0 (some (k : Int))) = xs.drop k := by
  rw [HT.sIx_nat, HT.sIx_none]
  by_cases h : k ≤ xs.length
  · rw [Nat.min_eq_left h]
    exact List.take_of_length_le (by rw [List.length_drop]; omega)
  · rw [Nat.min_eq_right (by omega), List.drop_eq_nil_of_le (Nat.le_refl _), List.drop_eq_nil_of_le (by omega)]
    simp
theorem cut_from (ds : List Int) (k : Nat) : cutT (intsT ds) (some (k : Int)) none = intsT (ds.drop k) := by
  unfold cutT
  rw [sIx_from 0 k]
  unfold intsT
  rw [List.map_drop]
theorem cut_to (ds : List Int) (k : Nat) : cutT (intsT ds) none (some (k : Int)) = intsT (ds.take k) := by
  unfold cutT
  rw [HT.sIx_none, HT.sIx_nat]
  show ((intsT ds).drop 0).take (min k (intsT ds).length - 0) = _
  rw [List.drop_zero, Nat.sub_zero]
  unfold intsT
  by_cases h : k ≤ (ds.map T.int).length
  · rw [Nat.min_eq_left h, List.map_take]
  · rw [Nat.min_eq_right (by omega), List.take_of_length_le (Nat.le_refl _), List.take_of_length_le (by rw [List.length_map] at h; omega)]
/-! elementary tables -/
def ofL (xss : List (List T)) : T := .tup (xss.map T.tup)
theorem setL_len (i j : Nat) (v : Int) : (setL i j v).length = 3 := by simp [setL, oneL]
def elem (i j : Nat) (v : Int) : Mat :=
  match i, j with
  | 0, 0 => ⟨⟨v, 0, 0⟩, ⟨0, 1, 0⟩, ⟨0, 0, 1⟩⟩ | 0, 1 => ⟨⟨1, v, 0⟩, ⟨0, 1, 0⟩, ⟨0, 0, 1⟩⟩ | 0, _ => ⟨⟨1, 0, v⟩, ⟨0, 1, 0⟩, ⟨0, 0, 1⟩⟩
  | 1, 0 => ⟨⟨1, 0, 0⟩, ⟨v, 1, 0⟩, ⟨0, 0, 1⟩⟩ | 1, 1 => ⟨⟨1, 0, 0⟩, ⟨0, v, 0⟩, ⟨0, 0, 1⟩⟩ | 1, _ => ⟨⟨1, 0, 0⟩, ⟨0, 1, v⟩, ⟨0, 0, 1⟩⟩
  | _, 0 => ⟨⟨1, 0, 0⟩, ⟨0, 1, 0⟩, ⟨v, 0, 1⟩⟩ | _, 1 => ⟨⟨1, 0, 0⟩, ⟨0, 1, 0⟩, ⟨0, v, 1⟩⟩ | _, _ => ⟨⟨1, 0, 0⟩, ⟨0, 1, 0⟩, ⟨0, 0, v⟩⟩
theorem elem_eq {i j : Nat} {v : Int} (hi : i < 3) (hj : j < 3) : T.tup ((setL i j v).map T.tup) = mat (elem i j v) := by
  have h1 : i = 0 ∨ i = 1 ∨ i = 2 := by omega
  have h2 : j = 0 ∨ j = 1 ∨ j = 2 := by omega
  rcases h1 with rfl | rfl | rfl <;> rcases h2 with rfl | rfl | rfl <;> rfl
theorem elem_det {i j : Nat} {v : Int} (hi : i < 3) (hj : j < 3) (h : i ≠ j) : det (elem i j v) = 1 := by
  have h1 : i = 0 ∨ i = 1 ∨ i = 2 := by omega
  have h2 : j = 0 ∨ j = 1 ∨ j = 2 := by omega
  rcases h1 with rfl | rfl | rfl <;> rcases h2 with rfl | rfl | rfl <;> first | exact absurd rfl h | (simp only [elem, det, dot, cross]; grind)
theorem elem_sm {i j : Nat} {v : Int} {n : Nat} (h : Sm n v) (h1 : 1 ≤ n) : (elem i j v).sm n := by
  have o : Sm n (1 : Int) := (Sm.of (x := 1) 1 (by decide)).mono h1
  have z : Sm n (0 : Int) := (Sm.of (x := 0) 1 (by decide)).mono h1
  unfold elem
  split <;> exact ⟨⟨by assumption, by assumption, by assumption⟩, ⟨by assumption, by assumption, by assumption⟩, ⟨by assumption, by assumption, by assumption⟩⟩
theorem one_sm : one.sm 1 := ⟨⟨by decide, by decide, by decide⟩, ⟨by decide, by decide, by decide⟩, ⟨by decide, by decide, by decide⟩⟩
end
end Cz

namespace Cz
open PySem PyProof.Rows L2
/-! ### the draws of a script -/
def itr {α : Type} (f : Nat → α → α) : Nat → α → α
  | 0, s => s
  | n + 1, s => f n (itr f n s)
def absI (x : Int) : Int := if x < 0 then -x else x
def innerStep (_ : Nat) (st : Int × List Int) : Int × List Int := if 0 < st.1 then (st.1 / 1009, st.2 ++ [st.1 % 1009]) else st
def seed1 (s n : Int) : Int := (s * 48271 + n + 11) % 2147483647
def drawStep (st : Int × List Int) (cell : Int) : Int × List Int :=
  if 1000000000000000000 ≤ absI cell then (seed1 st.1 (absI cell), (itr innerStep 60 (absI cell, st.2)).2)
  else (seed1 st.1 (absI cell), st.2 ++ [(seed1 st.1 (absI cell) * 16807 + 5) / 3 % 65521])
def seed2 (s : Int) (k : Nat) : Int := (s * 69621 + k + 1) % 2147483647
def fillStep (many : Nat) (k : Nat) (st : Int × List Int) : Int × List Int :=
  if st.2.length < many then (seed2 st.1 k, st.2 ++ [seed2 st.1 k / 7 % 65521]) else st
def draws1 (ns : List Int) : Int × List Int := ns.foldl drawStep (7, [])
def draws2 (ns : List Int) (many : Nat) : Int × List Int := itr (fillStep many) many (draws1 (ns.take 63))
def drawsM (ns : List Int) (many : Nat) : List Int := (draws2 ns many).2.take many
theorem inner_len (k : Nat) (st : Int × List Int) : (itr innerStep k st).2.length ≤ st.2.length + k := by
  induction k with
  | zero => exact Nat.le_refl _
  | succ k ih =>
    show (innerStep k (itr innerStep k st)).2.length ≤ _
    generalize itr innerStep k st = s at *
    unfold innerStep
    split
    · rw [List.length_append]; show _ + 1 ≤ _; omega
    · omega
theorem seed1_sm (s n : Int) : Sm 32 (seed1 s n) := Sm.emod (by decide) (by decide)
theorem seed2_sm (s : Int) (n : Nat) : Sm 32 (seed2 s n) := Sm.emod (by decide) (by decide)
theorem draw_fst (st : Int × List Int) (c : Int) : (drawStep st c).1 = seed1 st.1 (absI c) := by
  unfold drawStep
  split <;> rfl
theorem draw_len (st : Int × List Int) (c : Int) : (drawStep st c).2.length ≤ st.2.length + 60 := by
  unfold drawStep
  split
  · exact inner_len 60 _
  · rw [List.length_append]; show _ + 1 ≤ _; omega
theorem draws_sm : ∀ (ns : List Int) (st : Int × List Int), Sm 32 st.1 → Sm 32 (ns.foldl drawStep st).1
  | [], _, h => h
  | n :: ns, st, h => draws_sm ns _ (by rw [draw_fst]; exact seed1_sm _ _)
theorem draws_len : ∀ (ns : List Int) (st : Int × List Int), (ns.foldl drawStep st).2.length ≤ st.2.length + 60 * ns.length
  | [], _ => Nat.le_refl _
  | n :: ns, st => by
    have h1 := draws_len ns (drawStep st n)
    have h2 := draw_len st n
    show (ns.foldl drawStep (drawStep st n)).2.length ≤ _
    rw [List.length_cons]
    omega
theorem fill_sm (many k : Nat) {st : Int × List Int} (h : Sm 32 st.1) : Sm 32 (itr (fillStep many) k st).1 := by
  induction k with
  | zero => exact h
  | succ k ih =>
    show Sm 32 (fillStep many k (itr (fillStep many) k st)).1
    generalize itr (fillStep many) k st = s at *
    unfold fillStep
    split
    · exact seed2_sm _ _
    · exact ih
theorem fill_len (many k : Nat) (st : Int × List Int) : (itr (fillStep many) k st).2.length ≤ st.2.length + k ∧ (k ≤ many → k ≤ (itr (fillStep many) k st).2.length ∨ many ≤ (itr (fillStep many) k st).2.length) := by
  induction k with
  | zero => exact ⟨Nat.le_refl _, fun _ => .inl (Nat.zero_le _)⟩
  | succ k ih =>
    show (fillStep many k (itr (fillStep many) k st)).2.length ≤ _ ∧ (_ → _ ≤ (fillStep many k (itr (fillStep many) k st)).2.length ∨ _ ≤ (fillStep many k (itr (fillStep many) k st)).2.length)
    generalize itr (fillStep many) k st = s at *
    unfold fillStep
    split
    · rw [List.length_append]
      refine ⟨by show _ + 1 ≤ _; omega, fun h => .inl ?_⟩
      show k + 1 ≤ _ + 1
      rcases ih.2 (by omega) with h | h <;> omega
    · exact ⟨by omega, fun h => .inr (by omega)⟩
theorem drawsM_len (ns : List Int) (many : Nat) : (drawsM ns many).length = many := by
  unfold drawsM
  rw [List.length_take]
  rcases (fill_len many many (draws1 (ns.take 63))).2 (Nat.le_refl _) with h | h <;> exact Nat.min_eq_left h
theorem intsT_at' {ns : List Int} {i : Nat} {x : T} (h : (intsT ns)[i]? = some x) : ∃ n, ns[i]? = some n ∧ x = .int n := by
  unfold intsT at h
  rw [List.getElem?_map] at h
  cases e : ns[i]? with
  | none => rw [e] at h; cases h
  | some n => rw [e] at h; exact ⟨n, rfl, (Option.some.inj h).symm⟩
theorem intsT_snoc (ns : List Int) (n : Int) : intsT ns ++ [T.int n] = intsT (ns ++ [n]) := by unfold intsT; rw [List.map_append]; rfl
end Cz

namespace Cz
open PySem PySem.Spec PyProof.Rows L2
/-! ### rules of HandS with the written part named: within a comprehension the context is another one at each turn, its written part is not -/
section
variable {X : Cx} {a b e : Expr} {ta tb te : TE} {pos p p2 : Pos}
theorem pk_ixT (K : PySem.W.Frag) (ha : PE X a ta) (hb : PE X b tb) (hs : PlainIx b) (hK : X.K = K := by rfl) : PE X (.Subscript a b pos) (tOp (rIxT K) ta tb) := by subst hK; exact pe_ix ix_tup ha hb hs
theorem pk_ixL (K : PySem.W.Frag) (ha : PE X a ta) (hb : PE X b tb) (hs : PlainIx b) (hK : X.K = K := by rfl) : PE X (.Subscript a b pos) (tOp (rIxL K) ta tb) := by subst hK; exact pe_ix ix_list ha hb hs
theorem pk_slL (K : PySem.W.Frag) {lo hi : Option Expr} {tl th : TO} (he : PE X e te) (hl : PO X lo tl) (hu : PO X hi th) (hK : X.K = K := by rfl) : PE X (.Subscript e (.Slice lo hi none p2) pos) (tSl (rSlL K) te tl th) := by subst hK; exact pe_slice sl_list he hl hu
theorem pk_slT (K : PySem.W.Frag) {lo hi : Option Expr} {tl th : TO} (he : PE X e te) (hl : PO X lo tl) (hu : PO X hi th) (hK : X.K = K := by rfl) : PE X (.Subscript e (.Slice lo hi none p2) pos) (tSl (rSlT K) te tl th) := by subst hK; exact pe_slice sl_tup he hl hu
theorem pk_tupleOf (K : PySem.W.Frag) (hg : Gl X "tuple") (hm : X.mg "tuple" = none) (ha : PE X a ta) (na : starEach [a] X.env = (false, eval a X.env) :: starEach [] X.env := by rfl) (hK : X.K = K := by rfl) :
    PE X (.Call (.Name "tuple" p) [a] [] pos) (tThen ta (kTup K)) := by subst hK; exact pe_tupleOf hg hm ha na
theorem pk_fld (K : PySem.W.Frag) {f : Str} (he : PE X e ta) (hb : attributeBase e f X.env (eval e X.env) = eval e X.env) (hK : X.K = K := by rfl) : PE X (.Attribute e f pos) (tFld K ta f) := by subst hK; exact pe_fld he hb
theorem pki_list (K : PySem.W.Frag) {tg l : Expr} {tl : TE} (hl : PE X l tl) (hK : X.K = K := by rfl) : PI X tg l (iList K tl) := by subst hK; exact pi_list hl
theorem pki_tup (K : PySem.W.Frag) {tg l : Expr} {tl : TE} (hl : PE X l tl) (hK : X.K = K := by rfl) : PI X tg l (iTup K tl) := by subst hK; exact pi_tup hl
theorem opk_eqD (K : PySem.W.Frag) (hu : X.A.units + 64 < cLine) (hK : X.K = K := by rfl) : OpR X (compareOp .Eq) (rEqD K) := by subst hK; exact op_eqD hu
theorem opk_neD (K : PySem.W.Frag) (hu : X.A.units + 64 < cLine) (hK : X.K = K := by rfl) : OpR X (compareOp .NotEq) (rNeD K) := by subst hK; exact op_neD hu
theorem opk_in (K : PySem.W.Frag) (hK : X.K = K := by rfl) : OpR X (compareOp .In) (rIn K false) := by subst hK; exact op_in_seq
theorem opk_notIn (K : PySem.W.Frag) (hK : X.K = K := by rfl) : OpR X (compareOp .NotIn) (rIn K true) := by subst hK; exact op_notIn_seq
theorem ck_len (K : PySem.W.Frag) (hK : X.K = K := by rfl) : CallR X (.builtin "len") (fun xs H Q => ∃ p ys, xs = [.ref p] ∧ (SqL K H p ys ∨ SqT K H p ys) ∧ Q (.int ys.length) H) := by subst hK; exact call_len_seq
theorem ck_isi (K : PySem.W.Frag) (hK : X.K = K := by rfl) : CallR X (.builtin "isinstance") (rIsi K) := by subst hK; exact call_isi
theorem ck_sum (K : PySem.W.Frag) (hc : X.calm = true) (hK : X.K = K := by rfl) : CallR X (.builtin "sum") (rSum K) := by subst hK; exact cr_sum hc
theorem ck_max (K : PySem.W.Frag) (hc : X.calm = true) (hK : X.K = K := by rfl) : CallR X (.builtin "max") (rMax K) := by subst hK; exact cr_max hc
theorem ck_min (K : PySem.W.Frag) (hc : X.calm = true) (hK : X.K = K := by rfl) : CallR X (.builtin "min") (rMin K) := by subst hK; exact cr_min hc
theorem ck_any (K : PySem.W.Frag) (hc : X.calm = true) (hK : X.K = K := by rfl) : CallR X (.builtin "any") (rAny K) := by subst hK; exact cr_any hc
theorem ck_all (K : PySem.W.Frag) (hc : X.calm = true) (hK : X.K = K := by rfl) : CallR X (.builtin "all") (rAll K) := by subst hK; exact cr_all hc
theorem pgk_tup (K : PySem.W.Frag) {es : List Expr} {k : Nat} {t : TGs} {n : Nat} (hc : X.calm = true) (h : PGs X es t) (hn : (assignEach es X.env).length = n := by rfl) (hst : (assignEach es X.env).findIdx? (·.1) = none := by rfl) (hK : X.K = K := by rfl) : PG X (.Tuple es k pos) (gTup K n t) := by subst hK; exact pg_tup hc h hn hst
end
end Cz
namespace Cz
open PySem PySem.Spec PyProof.Rows L2
/-! ### a suite that is only for instances of one class -/
def tCls (c : Value) (t : Addr → TS) : Addr → Value → Option Addr → TS := fun a cls d D σ H => cls = c ∧ d = none ∧ t a D σ H
theorem pss_cls {X : Cx} {sts : List Stmt} {t : Addr → TS} {a : Addr} {c cls : Value} {d : Option Addr} (h : cls = c → d = none → PSs X sts (t a)) : PSs X sts (tCls c t a cls d) := ⟨fun pins s σ H D I q => by
  obtain ⟨e1, e2, q⟩ := q
  exact (h e1 e2).run pins s σ H D I q⟩
theorem sv_cls {K : PySem.W.Frag} {W : WX} {Γ : List D} {P : Po} {t : Addr → TS} {a : Addr} {c : Value} (h : Sv K W (t a) Γ P) : Sv K W (tCls c t a c none) Γ P := fun H0 A σ H E hE M => ⟨rfl, rfl, h H0 A σ H E hE M⟩
end Cz
namespace Cz
open PySem PySem.Spec PyProof.Rows L2
/-! ### isinstance of an own error: what kitOne says -/
theorem ref_beq (a b : Addr) : ((Value.ref a == Value.ref b) = true) ↔ a = b := ⟨fun h => Value.ref.inj (beq_iff_eq.mp h), fun h => by rw [h]; exact beq_self_eq_true _⟩
theorem kit_ref {K : PySem.W.Frag} {A B : Addr} {b : Bool} (hA : PySem.W.subIn K (.ref A) (.ref A) = some true) (h : PySem.W.subIn K (.ref A) (.ref B) = some b) (hd : PySem.W.hasDictIn K B = true) (ht : PySem.W.typeIn K (.ref B) = some (.type "type")) : PySem.W.kitOne K (.ref A) (.ref B) = some b := by
  unfold PySem.W.kitOne
  by_cases e : A = B
  · subst e
    rw [if_pos (beq_self_eq_true _), ← hA, h]
  · rw [if_neg (fun z => e ((ref_beq A B).mp z))]
    obtain ⟨cd, hc, _⟩ := PySem.W.any_some hd
    show (if ((PySem.W.clsIn K B).isSome && PySem.W.typeIn K (.ref B) == some (.type "type")) = true then PySem.W.subIn K (.ref A) (.ref B) else none) = some b
    rw [if_pos (by rw [hc, ht] <;> rfl)]
    exact h
theorem kit_typ {K : PySem.W.Frag} {A : Addr} {n : String} {b : Bool} (h : PySem.W.subIn K (.ref A) (.type n) = some b) (hm : PySem.W.kitMeta n = true) : PySem.W.kitOne K (.ref A) (.type n) = some b := by
  unfold PySem.W.kitOne
  rw [if_neg (by intro z; cases beq_iff_eq.mp z)]
  show (if PySem.W.kitMeta n = true then PySem.W.subIn K (.ref A) (.type n) else none) = some b
  rw [if_pos hm]
  exact h
end Cz

local macro_rules | `(tactic| walk_at "sm") => `(tactic| first
  | assumption
  | (apply Cz.Row.sm.x; walk_at "sm") | (apply Cz.Row.sm.y; walk_at "sm") | (apply Cz.Row.sm.z; walk_at "sm")
  | (apply Cz.Mat.sm.a; walk_at "sm") | (apply Cz.Mat.sm.b; walk_at "sm") | (apply Cz.Mat.sm.c; walk_at "sm")
  | (apply Cz.sm_dot <;> walk_at "sm") | (apply Cz.sm_cross <;> walk_at "sm") | (apply Cz.sm_image <;> walk_at "sm") | (apply Cz.sm_tr; walk_at "sm") | (apply Cz.sm_mul <;> walk_at "sm") | (apply Cz.sm_det; walk_at "sm") | (apply Cz.sm_adj; walk_at "sm")
  | (apply Cz.Sm.mul <;> walk_at "sm") | (apply Cz.Sm.add' <;> walk_at "sm") | (apply Cz.Sm.sub' <;> walk_at "sm") | (apply Cz.Sm.neg; walk_at "sm")
  | (apply Cz.Sm.emod (n := 24) <;> decide) | exact Cz.Sm.bit | (apply Cz.Sm.abs; walk_at "sm")
  | exact Cz.Sm.of 128 (by decide))
local macro_rules | `(tactic| walk_at "smk") => `(tactic| (apply Cz.Sm.mulok; (walk_at "sm"); (walk_at "sm"); (first | decide | omega)))

namespace Kx
open PySem PyProof.Rows L2 Cz
/-! elementary steps -/
def farM (x : Int) : Int := if x % 3 = 2 then 100000000000000000000 else 1
theorem farM_sm (x : Int) : Sm 70 (farM x) := by unfold farM; split <;> decide
theorem atI_far (x : Int) : L2.atI [T.int 1, T.int 1, T.int (10 ^ (20 : Int).toNat)] (x % 3) = some (.int (farM x)) := by
  have h : x % 3 = 0 ∨ x % 3 = 1 ∨ x % 3 = 2 := by omega
  unfold farM
  rcases h with h | h | h <;> rw [h] <;> rfl
def pI (x : Int) : Nat := [0, 0, 1, 1, 2, 2].getD (x % 6).toNat 0
def pJ (x : Int) : Nat := [1, 2, 0, 2, 0, 1].getD (x % 6).toNat 0
def pV (x : Int) : Int := [1, -1, 2, -1].getD (x / 6 % 4).toNat 0
theorem pij (x : Int) : pI x < 3 ∧ pJ x < 3 ∧ pI x ≠ pJ x ∧ ixN 3 ((pI x : Nat) : Int) = some (pI x) ∧ ixN 3 ((pJ x : Nat) : Int) = some (pJ x) := by
  have h : x % 6 = 0 ∨ x % 6 = 1 ∨ x % 6 = 2 ∨ x % 6 = 3 ∨ x % 6 = 4 ∨ x % 6 = 5 := by omega
  unfold pI pJ
  rcases h with h | h | h | h | h | h <;> rw [h] <;> decide
theorem atI_pairs (x : Int) : L2.atI [T.tup [.int 0, .int 1], T.tup [.int 0, .int 2], T.tup [.int 1, .int 0], T.tup [.int 1, .int 2], T.tup [.int 2, .int 0], T.tup [.int 2, .int 1]] (x % 6) = some (.tup [.int (pI x : Nat), .int (pJ x : Nat)]) := by
  have h : x % 6 = 0 ∨ x % 6 = 1 ∨ x % 6 = 2 ∨ x % 6 = 3 ∨ x % 6 = 4 ∨ x % 6 = 5 := by omega
  unfold pI pJ
  rcases h with h | h | h | h | h | h <;> rw [h] <;> rfl
theorem atI_vals (x : Int) : L2.atI [T.int 1, T.int (-1), T.int 2, T.int (-1)] (x / 6 % 4) = some (.int (pV x)) := by
  have h : x / 6 % 4 = 0 ∨ x / 6 % 4 = 1 ∨ x / 6 % 4 = 2 ∨ x / 6 % 4 = 3 := by omega
  unfold pV
  rcases h with h | h | h | h <;> rw [h] <;> rfl
theorem pV_sm (x : Int) : Sm 2 (pV x) := by
  have h : x / 6 % 4 = 0 ∨ x / 6 % 4 = 1 ∨ x / 6 % 4 = 2 ∨ x / 6 % 4 = 3 := by omega
  unfold pV
  rcases h with h | h | h | h <;> rw [h] <;> decide
def stepM (x : Int) : Mat := elem (pI x) (pJ x) (pV x)
def stepsM (ds : List Int) : Nat → Mat
  | 0 => one
  | k + 1 => mul (stepsM ds k) (stepM (dr ds k))
theorem stepsM_sm (ds : List Int) : ∀ k, (stepsM ds k).sm (1 + 4 * k)
  | 0 => one_sm
  | k + 1 => (sm_mul (stepsM_sm ds k) (elem_sm (pV_sm _) (by decide))).mono (by omega)
theorem stepsM_det (ds : List Int) : ∀ k, det (stepsM ds k) = 1
  | 0 => by
    show det one = 1
    decide
  | k + 1 => by
    have h := pij (dr ds k)
    show det (mul (stepsM ds k) (stepM (dr ds k))) = 1
    rw [det_mul, stepsM_det ds k]
    unfold stepM
    rw [elem_det h.1 h.2.1 h.2.2.1] <;> rfl
def rowM (ds : List Int) (most : Int) : Row := ⟨dr ds 0 % (2 * most + 1) - most, dr ds 1 % (2 * most + 1) - most, dr ds 2 % (2 * most + 1) - most⟩
def tabE (x far : Int) : Int := (x % 19 - 9) * far + x / 19 % 7 * (if decide (1 < far) = true then 1 else 0)
def tableM (ds : List Int) (far : Int) : Mat := ⟨⟨tabE (dr ds 0) far, tabE (dr ds 1) far, tabE (dr ds 2) far⟩, ⟨tabE (dr ds 3) far, tabE (dr ds 4) far, tabE (dr ds 5) far⟩, ⟨tabE (dr ds 6) far, tabE (dr ds 7) far, tabE (dr ds 8) far⟩⟩
theorem tabE_sm (x : Int) {far : Int} (h : Sm 70 far) : Sm 200 (tabE x far) := by
  unfold tabE
  exact (Sm.add (Sm.mul (Sm.sub (Sm.emod (n := 5) (by decide) (by decide)) (Sm.of 5 (by decide))) h) (Sm.mul (Sm.emod (n := 5) (by decide) (by decide)) Sm.bit)).mono (by decide)
theorem tableM_sm (ds : List Int) {far : Int} (h : Sm 70 far) : (tableM ds far).sm 200 := ⟨⟨tabE_sm _ h, tabE_sm _ h, tabE_sm _ h⟩, ⟨tabE_sm _ h, tabE_sm _ h, tabE_sm _ h⟩, ⟨tabE_sm _ h, tabE_sm _ h, tabE_sm _ h⟩⟩
theorem rowM_sm (ds : List Int) {most : Int} (h : 0 ≤ most) (h2 : most < 1000) : (rowM ds most).sm 20 := by
  have f : ∀ x : Int, Sm 20 (x % (2 * most + 1) - most) := fun x => by
    have h1 := Int.emod_nonneg x (by omega : 2 * most + 1 ≠ 0)
    have h3 := Int.emod_lt_of_pos x (by omega : 0 < 2 * most + 1)
    unfold Sm
    omega
  exact ⟨f _, f _, f _⟩
/-! the mirror of inverse_of -/
def uni (m : Mat) : Bool := decide ((if det m < 0 then -det m else det m) = 1)
def sgn (m : Mat) : Mat := ⟨⟨det m, 0, 0⟩, ⟨0, det m, 0⟩, ⟨0, 0, det m⟩⟩
def inv (m : Mat) : Mat := mul (adj m) (sgn m)
theorem uni_det {m : Mat} (h : uni m = true) : det m = 1 ∨ det m = -1 := by
  unfold uni at h
  have := of_decide_eq_true h
  split at this <;> omega
theorem sgn_one (m : Mat) : sgn m = smul (det m) one := by
  apply Mat.ext' <;> apply Row.ext' <;> (simp only [sgn, smul, one]; grind)
theorem smul_mul (k : Int) (m n : Mat) : mul m (smul k n) = smul k (mul m n) := by
  apply Mat.ext' <;> apply Row.ext' <;> (simp only [image, mul, Mat.tr, dot, smul]; grind)
theorem smul_mul2 (k : Int) (m n : Mat) : mul (smul k m) n = smul k (mul m n) := by
  apply Mat.ext' <;> apply Row.ext' <;> (simp only [image, mul, Mat.tr, dot, smul]; grind)
theorem smul_smul (k j : Int) (m : Mat) : smul k (smul j m) = smul (k * j) m := by
  apply Mat.ext' <;> apply Row.ext' <;> (simp only [smul]; grind)
theorem smul_one1 (m : Mat) : smul 1 m = m := by
  apply Mat.ext' <;> apply Row.ext' <;> (simp only [smul]; grind)
theorem sq1 {m : Mat} (h : uni m = true) : det m * det m = 1 := by
  rcases uni_det h with e | e <;> rw [e] <;> rfl
theorem inv_eq (m : Mat) : inv m = smul (det m) (adj m) := by
  unfold inv
  rw [sgn_one, smul_mul, mul_one']
theorem mul_inv {m : Mat} (h : uni m = true) : mul m (inv m) = one := by
  rw [inv_eq, smul_mul, mul_adj, smul_smul, sq1 h, smul_one1]
theorem inv_mul {m : Mat} (h : uni m = true) : mul (inv m) m = one := by
  rw [inv_eq, smul_mul2, adj_mul, smul_smul, sq1 h, smul_one1]
open PySem PyProof.Rows L2 Cz
def topS (i : Nat) : Stmt := PySem.Challenge.pw_coneroom_k00_images_and_inverses.main.body.getD i (.Pass ⟨0, 0, 0, 0⟩)
abbrev s_dot : Stmt := topS 5
abbrev s_cross : Stmt := topS 6
abbrev s_transposed : Stmt := topS 7
abbrev s_image : Stmt := topS 8
abbrev s_matrix_product : Stmt := topS 9
abbrev s_determinant_of : Stmt := topS 10
abbrev s_adjugate_of : Stmt := topS 11
abbrev s_has_inverse : Stmt := topS 12
abbrev s_inverse_of : Stmt := topS 13
abbrev s_law_draws : Stmt := topS 15
abbrev s_law_image : Stmt := topS 16
abbrev s_law_times : Stmt := topS 17
abbrev s_law_det : Stmt := topS 18
abbrev s_law_row : Stmt := topS 20
abbrev s_law_table : Stmt := topS 21
abbrev s_law_steps : Stmt := topS 19
abbrev s_law_refused : Stmt := topS 22
abbrev s_law : Stmt := topS 23
structure Txt (K : PySem.W.Frag) (mg : Str → Option Value) where
  a_dot : Addr
  fd_dot : FuncData
  F_dot : Fun K "dot" "dot" s_dot a_dot fd_dot
  g_dot : mg "dot" = some (.ref a_dot)
  b_dot : Binds K fd_dot ["first", "second"] []
  a_cross : Addr
  fd_cross : FuncData
  F_cross : Fun K "cross" "cross" s_cross a_cross fd_cross
  g_cross : mg "cross" = some (.ref a_cross)
  b_cross : Binds K fd_cross ["first", "second"] []
  a_transposed : Addr
  fd_transposed : FuncData
  F_transposed : Fun K "transposed" "transposed" s_transposed a_transposed fd_transposed
  g_transposed : mg "transposed" = some (.ref a_transposed)
  b_transposed : Binds K fd_transposed ["matrix"] []
  a_image : Addr
  fd_image : FuncData
  F_image : Fun K "image" "image" s_image a_image fd_image
  g_image : mg "image" = some (.ref a_image)
  b_image : Binds K fd_image ["matrix", "row"] []
  a_matrix_product : Addr
  fd_matrix_product : FuncData
  F_matrix_product : Fun K "matrix_product" "matrix_product" s_matrix_product a_matrix_product fd_matrix_product
  g_matrix_product : mg "matrix_product" = some (.ref a_matrix_product)
  b_matrix_product : Binds K fd_matrix_product ["first", "second"] []
  a_determinant_of : Addr
  fd_determinant_of : FuncData
  F_determinant_of : Fun K "determinant_of" "determinant_of" s_determinant_of a_determinant_of fd_determinant_of
  g_determinant_of : mg "determinant_of" = some (.ref a_determinant_of)
  b_determinant_of : Binds K fd_determinant_of ["matrix"] []
  a_adjugate_of : Addr
  fd_adjugate_of : FuncData
  F_adjugate_of : Fun K "adjugate_of" "adjugate_of" s_adjugate_of a_adjugate_of fd_adjugate_of
  g_adjugate_of : mg "adjugate_of" = some (.ref a_adjugate_of)
  b_adjugate_of : Binds K fd_adjugate_of ["matrix"] []
  a_has_inverse : Addr
  fd_has_inverse : FuncData
  F_has_inverse : Fun K "has_inverse" "has_inverse" s_has_inverse a_has_inverse fd_has_inverse
  g_has_inverse : mg "has_inverse" = some (.ref a_has_inverse)
  b_has_inverse : Binds K fd_has_inverse ["matrix"] []
  a_inverse_of : Addr
  fd_inverse_of : FuncData
  F_inverse_of : Fun K "inverse_of" "inverse_of" s_inverse_of a_inverse_of fd_inverse_of
  g_inverse_of : mg "inverse_of" = some (.ref a_inverse_of)
  b_inverse_of : Binds K fd_inverse_of ["matrix"] []
  a_law_draws : Addr
  fd_law_draws : FuncData
  F_law_draws : Fun K "_law_draws" "_law_draws" s_law_draws a_law_draws fd_law_draws
  g_law_draws : mg "_law_draws" = some (.ref a_law_draws)
  b_law_draws : Binds K fd_law_draws ["script", "many"] []
  a_law_image : Addr
  fd_law_image : FuncData
  F_law_image : Fun K "_law_image" "_law_image" s_law_image a_law_image fd_law_image
  g_law_image : mg "_law_image" = some (.ref a_law_image)
  b_law_image : Binds K fd_law_image ["matrix", "row"] []
  a_law_times : Addr
  fd_law_times : FuncData
  F_law_times : Fun K "_law_times" "_law_times" s_law_times a_law_times fd_law_times
  g_law_times : mg "_law_times" = some (.ref a_law_times)
  b_law_times : Binds K fd_law_times ["first", "second"] []
  a_law_det : Addr
  fd_law_det : FuncData
  F_law_det : Fun K "_law_det" "_law_det" s_law_det a_law_det fd_law_det
  g_law_det : mg "_law_det" = some (.ref a_law_det)
  b_law_det : Binds K fd_law_det ["m"] []
  a_law_row : Addr
  fd_law_row : FuncData
  F_law_row : Fun K "_law_row" "_law_row" s_law_row a_law_row fd_law_row
  g_law_row : mg "_law_row" = some (.ref a_law_row)
  b_law_row : Binds K fd_law_row ["draws", "most"] []
  a_law_table : Addr
  fd_law_table : FuncData
  F_law_table : Fun K "_law_table" "_law_table" s_law_table a_law_table fd_law_table
  g_law_table : mg "_law_table" = some (.ref a_law_table)
  b_law_table : Binds K fd_law_table ["draws", "far"] []
  a_law_steps : Addr
  fd_law_steps : FuncData
  F_law_steps : Fun K "_law_steps" "_law_steps" s_law_steps a_law_steps fd_law_steps
  g_law_steps : mg "_law_steps" = some (.ref a_law_steps)
  b_law_steps : Binds K fd_law_steps ["draws", "many"] []
  a_law_refused : Addr
  fd_law_refused : FuncData
  F_law_refused : Fun K "_law_refused" "_law_refused" s_law_refused a_law_refused fd_law_refused
  g_law_refused : mg "_law_refused" = some (.ref a_law_refused)
  b_law_refused : Binds K fd_law_refused ["matrix"] []
  z_abs : mg "abs" = none
  z_int : mg "int" = none
  z_range : mg "range" = none
  z_len : mg "len" = none
  z_tuple : mg "tuple" = none
  z_isinstance : mg "isinstance" = none
  z_ValueError : mg "ValueError" = none
  C_BadMatrix : Addr
  g_BadMatrix : mg "BadMatrix" = some (.ref C_BadMatrix)
  x_BadMatrix : PySem.W.excIn K C_BadMatrix [.type "ValueError", .type "Exception", .type "BaseException", .type "object"] "ValueError.__new__" = true
  k_BadMatrix : PySem.W.keepIn K (.ref C_BadMatrix) = true
  b_BadMatrix : PySem.W.subIn K (.ref C_BadMatrix) (.type "BaseException") = some true
  t_BadMatrix : PySem.W.typeIn K (.ref C_BadMatrix) = some (.type "type")
  h_BadMatrix : PySem.W.hasDictIn K C_BadMatrix = true
  C_ConeroomError : Addr
  g_ConeroomError : mg "ConeroomError" = some (.ref C_ConeroomError)
  x_ConeroomError : PySem.W.excIn K C_ConeroomError [.type "ValueError", .type "Exception", .type "BaseException", .type "object"] "ValueError.__new__" = true
  k_ConeroomError : PySem.W.keepIn K (.ref C_ConeroomError) = true
  b_ConeroomError : PySem.W.subIn K (.ref C_ConeroomError) (.type "BaseException") = some true
  t_ConeroomError : PySem.W.typeIn K (.ref C_ConeroomError) = some (.type "type")
  h_ConeroomError : PySem.W.hasDictIn K C_ConeroomError = true
  C_BadForm : Addr
  g_BadForm : mg "BadForm" = some (.ref C_BadForm)
  x_BadForm : PySem.W.excIn K C_BadForm [.type "ValueError", .type "Exception", .type "BaseException", .type "object"] "ValueError.__new__" = true
  k_BadForm : PySem.W.keepIn K (.ref C_BadForm) = true
  b_BadForm : PySem.W.subIn K (.ref C_BadForm) (.type "BaseException") = some true
  t_BadForm : PySem.W.typeIn K (.ref C_BadForm) = some (.type "type")
  h_BadForm : PySem.W.hasDictIn K C_BadForm = true
  E_BadMatrix : ExcC K C_BadMatrix
  m_BadMatrix_ConeroomError : PySem.W.exmOne K (.ref C_BadMatrix) (.ref C_ConeroomError) = some true
  k_BadMatrix_BadMatrix : PySem.W.kitOne K (.ref C_BadMatrix) (.ref C_BadMatrix) = some true
  k_BadMatrix_ValueError : PySem.W.kitOne K (.ref C_BadMatrix) (.type "ValueError") = some true
  k_BadMatrix_BadForm : PySem.W.kitOne K (.ref C_BadMatrix) (.ref C_BadForm) = some false
section
variable {P : Program} {w : World} {K : PySem.W.Frag} {mg : Str → Option Value} {base : Heap}
theorem sc_dot : FnScope ["first", "second"] ["first", "second"] (defScope s_dot) := ⟨rfl, rfl, rfl, by decide +kernel, rfl, by decide +kernel, by decide +kernel⟩
def R_dot : List D → D → Prop := fun ds r => ∃ (u v : Row) (n k : Nat), ds = [.t (row u), .t (row v)] ∧ r = .t (.int (dot u v)) ∧ u.sm n ∧ v.sm k ∧ n ≤ 100000 ∧ k ≤ 100000
theorem ok_dot (T : Txt K mg) : FnOk P w K mg base CX0 1 T.a_dot T.fd_dot ["first", "second"] (spD K R_dot) := by
  refine fn_d T.F_dot sc_dot (fun ds r h => ?_) (fun cdv A outer s H E hr => ?_)
  · obtain ⟨u, v, n, k, rfl, _⟩ := h
    rfl
  · have hu := hr.units
    skip
    refine ⟨_, (pss_one (ps_ret (pe_op op_add (pe_op op_add (pe_op op_mulW (pk_ixT K (pv 0) pe_int (fun _ _ => rfl)) (pk_ixT K (pv 1) pe_int (fun _ _ => rfl))) (pe_op op_mulW (pk_ixT K (pv 0) pe_int (fun _ _ => rfl)) (pk_ixT K (pv 1) pe_int (fun _ _ => rfl)))) (pe_op op_mulW (pk_ixT K (pv 0) pe_int (fun _ _ => rfl)) (pk_ixT K (pv 1) pe_int (fun _ _ => rfl)))))), fun ds r h => ?_⟩
    obtain ⟨u, v, n, k, rfl, rfl, hc⟩ := h
    obtain ⟨hm, hk, hn, hn2⟩ := hc
    show Sv K W0 _ [D.t (row u), D.t (row v), ] _
    refine (sv_ret (ev_add (ev_add (ev_mul (ev_ixT (ev_var rfl) ev_int (by rfl)) (ev_ixT (ev_var rfl) ev_int (by rfl)) (by walk_at "smk")) (ev_mul (ev_ixT (ev_var rfl) ev_int (by rfl)) (ev_ixT (ev_var rfl) ev_int (by rfl)) (by walk_at "smk"))) (ev_mul (ev_ixT (ev_var rfl) ev_int (by rfl)) (ev_ixT (ev_var rfl) ev_int (by rfl)) (by walk_at "smk"))) ?_)
    rfl
local macro_rules | `(tactic| walk_at "R_dot") => `(tactic| exact ⟨_, _, _, _, rfl, rfl, by walk_at "sm", by walk_at "sm", by first | decide | omega, by first | decide | omega⟩)
theorem sc_cross : FnScope ["first", "second"] ["first", "second"] (defScope s_cross) := ⟨rfl, rfl, rfl, by decide +kernel, rfl, by decide +kernel, by decide +kernel⟩
def R_cross : List D → D → Prop := fun ds r => ∃ (u v : Row) (n k : Nat), ds = [.t (row u), .t (row v)] ∧ r = .t (row (cross u v)) ∧ u.sm n ∧ v.sm k ∧ n ≤ 100000 ∧ k ≤ 100000
theorem ok_cross (T : Txt K mg) : FnOk P w K mg base CX0 1 T.a_cross T.fd_cross ["first", "second"] (spD K R_cross) := by
  refine fn_d T.F_cross sc_cross (fun ds r h => ?_) (fun cdv A outer s H E hr => ?_)
  · obtain ⟨u, v, n, k, rfl, _⟩ := h
    rfl
  · have hu := hr.units
    skip
    refine ⟨_, (pss_one (ps_ret (pe_tup (pa_cons (pe_op op_sub (pe_op op_mulW (pk_ixT K (pv 0) pe_int (fun _ _ => rfl)) (pk_ixT K (pv 1) pe_int (fun _ _ => rfl))) (pe_op op_mulW (pk_ixT K (pv 0) pe_int (fun _ _ => rfl)) (pk_ixT K (pv 1) pe_int (fun _ _ => rfl)))) (pa_cons (pe_op op_sub (pe_op op_mulW (pk_ixT K (pv 0) pe_int (fun _ _ => rfl)) (pk_ixT K (pv 1) pe_int (fun _ _ => rfl))) (pe_op op_mulW (pk_ixT K (pv 0) pe_int (fun _ _ => rfl)) (pk_ixT K (pv 1) pe_int (fun _ _ => rfl)))) (pa_cons (pe_op op_sub (pe_op op_mulW (pk_ixT K (pv 0) pe_int (fun _ _ => rfl)) (pk_ixT K (pv 1) pe_int (fun _ _ => rfl))) (pe_op op_mulW (pk_ixT K (pv 0) pe_int (fun _ _ => rfl)) (pk_ixT K (pv 1) pe_int (fun _ _ => rfl)))) pa_nil)))))), fun ds r h => ?_⟩
    obtain ⟨u, v, n, k, rfl, rfl, hc⟩ := h
    obtain ⟨hm, hk, hn, hn2⟩ := hc
    show Sv K W0 _ [D.t (row u), D.t (row v), ] _
    refine (sv_ret (ev_row (ev_sub (ev_mul (ev_ixT (ev_var rfl) ev_int (by rfl)) (ev_ixT (ev_var rfl) ev_int (by rfl)) (by walk_at "smk")) (ev_mul (ev_ixT (ev_var rfl) ev_int (by rfl)) (ev_ixT (ev_var rfl) ev_int (by rfl)) (by walk_at "smk"))) (ev_sub (ev_mul (ev_ixT (ev_var rfl) ev_int (by rfl)) (ev_ixT (ev_var rfl) ev_int (by rfl)) (by walk_at "smk")) (ev_mul (ev_ixT (ev_var rfl) ev_int (by rfl)) (ev_ixT (ev_var rfl) ev_int (by rfl)) (by walk_at "smk"))) (ev_sub (ev_mul (ev_ixT (ev_var rfl) ev_int (by rfl)) (ev_ixT (ev_var rfl) ev_int (by rfl)) (by walk_at "smk")) (ev_mul (ev_ixT (ev_var rfl) ev_int (by rfl)) (ev_ixT (ev_var rfl) ev_int (by rfl)) (by walk_at "smk")))) ?_)
    rfl
local macro_rules | `(tactic| walk_at "R_cross") => `(tactic| exact ⟨_, _, _, _, rfl, rfl, by walk_at "sm", by walk_at "sm", by first | decide | omega, by first | decide | omega⟩)
theorem sc_transposed : FnScope ["matrix", "first", "second", "third"] ["matrix"] (defScope s_transposed) := ⟨rfl, rfl, rfl, by decide +kernel, rfl, by decide +kernel, by decide +kernel⟩
def R_transposed : List D → D → Prop := fun ds r => ∃ (m : Mat), ds = [.t (mat m)] ∧ r = .t (mat m.tr) ∧ True
theorem ok_transposed (T : Txt K mg) : FnOk P w K mg base CX0 1 T.a_transposed T.fd_transposed ["matrix"] (spD K R_transposed) := by
  refine fn_d T.F_transposed sc_transposed (fun ds r h => ?_) (fun cdv A outer s H E hr => ?_)
  · obtain ⟨m, rfl, _⟩ := h
    rfl
  · have hu := hr.units
    skip
    refine ⟨_, (pss_cons (ps_asg (pv 0) (pgk_tup K rfl (pgs_cons (pg_name (i := 1) sc_transposed.nd rfl (by first | exact Or.inl rfl | exact Or.inr rfl)) (pgs_cons (pg_name (i := 2) sc_transposed.nd rfl (by first | exact Or.inl rfl | exact Or.inr rfl)) (pgs_cons (pg_name (i := 3) sc_transposed.nd rfl (by first | exact Or.inl rfl | exact Or.inr rfl)) pgs_nil)))))
    (pss_one (ps_ret (pe_tup (pa_cons (pe_tup (pa_cons (pk_ixT K (pv 1) pe_int (fun _ _ => rfl)) (pa_cons (pk_ixT K (pv 2) pe_int (fun _ _ => rfl)) (pa_cons (pk_ixT K (pv 3) pe_int (fun _ _ => rfl)) pa_nil)))) (pa_cons (pe_tup (pa_cons (pk_ixT K (pv 1) pe_int (fun _ _ => rfl)) (pa_cons (pk_ixT K (pv 2) pe_int (fun _ _ => rfl)) (pa_cons (pk_ixT K (pv 3) pe_int (fun _ _ => rfl)) pa_nil)))) (pa_cons (pe_tup (pa_cons (pk_ixT K (pv 1) pe_int (fun _ _ => rfl)) (pa_cons (pk_ixT K (pv 2) pe_int (fun _ _ => rfl)) (pa_cons (pk_ixT K (pv 3) pe_int (fun _ _ => rfl)) pa_nil)))) pa_nil))))))), fun ds r h => ?_⟩
    obtain ⟨m, rfl, rfl, hc⟩ := h

    show Sv K W0 _ [D.t (mat m), D.no, D.no, D.no] _
    refine (sv_then _ (sv_asg (ev_var rfl) (gd_tup rfl (gds_cons (gd_name _ _) (gds_cons (gd_name _ _) (gds_cons (gd_name _ _) gds_nil)))) rfl)
    (sv_ret (ev_mat (ev_row (ev_ixT (ev_var rfl) ev_int (by rfl)) (ev_ixT (ev_var rfl) ev_int (by rfl)) (ev_ixT (ev_var rfl) ev_int (by rfl))) (ev_row (ev_ixT (ev_var rfl) ev_int (by rfl)) (ev_ixT (ev_var rfl) ev_int (by rfl)) (ev_ixT (ev_var rfl) ev_int (by rfl))) (ev_row (ev_ixT (ev_var rfl) ev_int (by rfl)) (ev_ixT (ev_var rfl) ev_int (by rfl)) (ev_ixT (ev_var rfl) ev_int (by rfl)))) ?_))
    rfl
local macro_rules | `(tactic| walk_at "R_transposed") => `(tactic| exact ⟨_, rfl, rfl, trivial⟩)
theorem sc_image : FnScope ["matrix", "row"] ["matrix", "row"] (defScope s_image) := ⟨rfl, rfl, rfl, by decide +kernel, rfl, by decide +kernel, by decide +kernel⟩
def R_image : List D → D → Prop := fun ds r => ∃ (m : Mat) (v : Row) (n k : Nat), ds = [.t (mat m), .t (row v)] ∧ r = .t (row (image m v)) ∧ m.sm n ∧ v.sm k ∧ n ≤ 90000 ∧ k ≤ 90000
theorem ok_image (T : Txt K mg) : FnOk P w K mg base CX0 2 T.a_image T.fd_image ["matrix", "row"] (spD K R_image) := by
  refine fn_d T.F_image sc_image (fun ds r h => ?_) (fun cdv A outer s H E hr => ?_)
  · obtain ⟨m, v, n, k, rfl, _⟩ := h
    rfl
  · have hu := hr.units
    have G_dot : FnOk P w K mg base CX0 1 T.a_dot T.fd_dot ["first", "second"] (spD K R_dot) := ok_dot T
    refine ⟨_, (pss_one (ps_ret (pe_tup (pa_cons (pe_call G_dot (hr.mono (by decide)) (by rfl) T.g_dot T.F_dot.kp T.b_dot .nil pass0 (pa_cons (pk_ixT K (pv 0) pe_int (fun _ _ => rfl)) (pa_cons (pv 1) pa_nil))) (pa_cons (pe_call G_dot (hr.mono (by decide)) (by rfl) T.g_dot T.F_dot.kp T.b_dot .nil pass0 (pa_cons (pk_ixT K (pv 0) pe_int (fun _ _ => rfl)) (pa_cons (pv 1) pa_nil))) (pa_cons (pe_call G_dot (hr.mono (by decide)) (by rfl) T.g_dot T.F_dot.kp T.b_dot .nil pass0 (pa_cons (pk_ixT K (pv 0) pe_int (fun _ _ => rfl)) (pa_cons (pv 1) pa_nil))) pa_nil)))))), fun ds r h => ?_⟩
    obtain ⟨m, v, n, k, rfl, rfl, hc⟩ := h
    obtain ⟨hm, hk, hn, hn2⟩ := hc
    show Sv K W0 _ [D.t (mat m), D.t (row v), ] _
    refine (sv_ret (ev_row (ev_call (eva_t (ev_ixT (ev_var rfl) ev_int (by rfl)) (eva_t (ev_var rfl) eva_nil)) (by walk_at "R_dot")) (ev_call (eva_t (ev_ixT (ev_var rfl) ev_int (by rfl)) (eva_t (ev_var rfl) eva_nil)) (by walk_at "R_dot")) (ev_call (eva_t (ev_ixT (ev_var rfl) ev_int (by rfl)) (eva_t (ev_var rfl) eva_nil)) (by walk_at "R_dot"))) ?_)
    rfl
local macro_rules | `(tactic| walk_at "R_image") => `(tactic| exact ⟨_, _, _, _, rfl, rfl, by walk_at "sm", by walk_at "sm", by first | decide | omega, by first | decide | omega⟩)
theorem sc_matrix_product : FnScope ["first", "second", "columns"] ["first", "second"] (defScope s_matrix_product) := ⟨rfl, rfl, rfl, by decide +kernel, rfl, by decide +kernel, by decide +kernel⟩
def R_matrix_product : List D → D → Prop := fun ds r => ∃ (m q : Mat) (n k : Nat), ds = [.t (mat m), .t (mat q)] ∧ r = .t (mat (mul m q)) ∧ m.sm n ∧ q.sm k ∧ n ≤ 90000 ∧ k ≤ 90000
theorem ok_matrix_product (T : Txt K mg) : FnOk P w K mg base CX0 3 T.a_matrix_product T.fd_matrix_product ["first", "second"] (spD K R_matrix_product) := by
  refine fn_d T.F_matrix_product sc_matrix_product (fun ds r h => ?_) (fun cdv A outer s H E hr => ?_)
  · obtain ⟨m, q, n, k, rfl, _⟩ := h
    rfl
  · have hu := hr.units
    have G_transposed : FnOk P w K mg base CX0 1 T.a_transposed T.fd_transposed ["matrix"] (spD K R_transposed) := ok_transposed T
    have G_image : FnOk P w K mg base CX0 2 T.a_image T.fd_image ["matrix", "row"] (spD K R_image) := ok_image T
    refine ⟨_, (pss_cons (ps_set (i := 2) sc_matrix_product.nd rfl (by first | exact Or.inl rfl | exact Or.inr rfl) (pe_call G_transposed (hr.mono (by decide)) (by rfl) T.g_transposed T.F_transposed.kp T.b_transposed .nil pass0 (pa_cons (pv 1) pa_nil)))
    (pss_one (ps_ret (pe_tup (pa_cons (pe_call G_image (hr.mono (by decide)) (by rfl) T.g_image T.F_image.kp T.b_image .nil pass0 (pa_cons (pv 2) (pa_cons (pk_ixT K (pv 0) pe_int (fun _ _ => rfl)) pa_nil))) (pa_cons (pe_call G_image (hr.mono (by decide)) (by rfl) T.g_image T.F_image.kp T.b_image .nil pass0 (pa_cons (pv 2) (pa_cons (pk_ixT K (pv 0) pe_int (fun _ _ => rfl)) pa_nil))) (pa_cons (pe_call G_image (hr.mono (by decide)) (by rfl) T.g_image T.F_image.kp T.b_image .nil pass0 (pa_cons (pv 2) (pa_cons (pk_ixT K (pv 0) pe_int (fun _ _ => rfl)) pa_nil))) pa_nil))))))), fun ds r h => ?_⟩
    obtain ⟨m, q, n, k, rfl, rfl, hc⟩ := h
    obtain ⟨hm, hk, hn, hn2⟩ := hc
    show Sv K W0 _ [D.t (mat m), D.t (mat q), D.no] _
    refine (sv_then _ (sv_set (ev_call (eva_t (ev_var rfl) eva_nil) (by walk_at "R_transposed")) rfl)
    (sv_ret (ev_mat (ev_call (eva_t (ev_var rfl) (eva_t (ev_ixT (ev_var rfl) ev_int (by rfl)) eva_nil)) (by walk_at "R_image")) (ev_call (eva_t (ev_var rfl) (eva_t (ev_ixT (ev_var rfl) ev_int (by rfl)) eva_nil)) (by walk_at "R_image")) (ev_call (eva_t (ev_var rfl) (eva_t (ev_ixT (ev_var rfl) ev_int (by rfl)) eva_nil)) (by walk_at "R_image"))) ?_))
    rfl
local macro_rules | `(tactic| walk_at "R_matrix_product") => `(tactic| exact ⟨_, _, _, _, rfl, rfl, by walk_at "sm", by walk_at "sm", by first | decide | omega, by first | decide | omega⟩)
theorem sc_determinant_of : FnScope ["matrix", "first", "second", "third"] ["matrix"] (defScope s_determinant_of) := ⟨rfl, rfl, rfl, by decide +kernel, rfl, by decide +kernel, by decide +kernel⟩
def R_determinant_of : List D → D → Prop := fun ds r => ∃ (m : Mat) (n : Nat), ds = [.t (mat m)] ∧ r = .t (.int (det m)) ∧ m.sm n ∧ n ≤ 40000
theorem ok_determinant_of (T : Txt K mg) : FnOk P w K mg base CX0 2 T.a_determinant_of T.fd_determinant_of ["matrix"] (spD K R_determinant_of) := by
  refine fn_d T.F_determinant_of sc_determinant_of (fun ds r h => ?_) (fun cdv A outer s H E hr => ?_)
  · obtain ⟨m, n, rfl, _⟩ := h
    rfl
  · have hu := hr.units
    have G_dot : FnOk P w K mg base CX0 1 T.a_dot T.fd_dot ["first", "second"] (spD K R_dot) := ok_dot T
    have G_cross : FnOk P w K mg base CX0 1 T.a_cross T.fd_cross ["first", "second"] (spD K R_cross) := ok_cross T
    refine ⟨_, (pss_cons (ps_asg (pv 0) (pgk_tup K rfl (pgs_cons (pg_name (i := 1) sc_determinant_of.nd rfl (by first | exact Or.inl rfl | exact Or.inr rfl)) (pgs_cons (pg_name (i := 2) sc_determinant_of.nd rfl (by first | exact Or.inl rfl | exact Or.inr rfl)) (pgs_cons (pg_name (i := 3) sc_determinant_of.nd rfl (by first | exact Or.inl rfl | exact Or.inr rfl)) pgs_nil)))))
    (pss_one (ps_ret (pe_call G_dot (hr.mono (by decide)) (by rfl) T.g_dot T.F_dot.kp T.b_dot .nil pass0 (pa_cons (pe_call G_cross (hr.mono (by decide)) (by rfl) T.g_cross T.F_cross.kp T.b_cross .nil pass0 (pa_cons (pv 1) (pa_cons (pv 2) pa_nil))) (pa_cons (pv 3) pa_nil)))))), fun ds r h => ?_⟩
    obtain ⟨m, n, rfl, rfl, hc⟩ := h
    obtain ⟨hm, hn⟩ := hc
    show Sv K W0 _ [D.t (mat m), D.no, D.no, D.no] _
    refine (sv_then _ (sv_asg (ev_var rfl) (gd_tup rfl (gds_cons (gd_name _ _) (gds_cons (gd_name _ _) (gds_cons (gd_name _ _) gds_nil)))) rfl)
    (sv_ret (ev_call (eva_t (ev_call (eva_t (ev_var rfl) (eva_t (ev_var rfl) eva_nil)) (by walk_at "R_cross")) (eva_t (ev_var rfl) eva_nil)) (by walk_at "R_dot")) ?_))
    rfl
local macro_rules | `(tactic| walk_at "R_determinant_of") => `(tactic| exact ⟨_, _, rfl, rfl, by walk_at "sm", by first | decide | omega⟩)
theorem sc_adjugate_of : FnScope ["matrix", "first", "second", "third"] ["matrix"] (defScope s_adjugate_of) := ⟨rfl, rfl, rfl, by decide +kernel, rfl, by decide +kernel, by decide +kernel⟩
def R_adjugate_of : List D → D → Prop := fun ds r => ∃ (m : Mat) (n : Nat), ds = [.t (mat m)] ∧ r = .t (mat (adj m)) ∧ m.sm n ∧ n ≤ 40000
theorem ok_adjugate_of (T : Txt K mg) : FnOk P w K mg base CX0 2 T.a_adjugate_of T.fd_adjugate_of ["matrix"] (spD K R_adjugate_of) := by
  refine fn_d T.F_adjugate_of sc_adjugate_of (fun ds r h => ?_) (fun cdv A outer s H E hr => ?_)
  · obtain ⟨m, n, rfl, _⟩ := h
    rfl
  · have hu := hr.units
    have G_transposed : FnOk P w K mg base CX0 1 T.a_transposed T.fd_transposed ["matrix"] (spD K R_transposed) := ok_transposed T
    have G_cross : FnOk P w K mg base CX0 1 T.a_cross T.fd_cross ["first", "second"] (spD K R_cross) := ok_cross T
    refine ⟨_, (pss_cons (ps_asg (pv 0) (pgk_tup K rfl (pgs_cons (pg_name (i := 1) sc_adjugate_of.nd rfl (by first | exact Or.inl rfl | exact Or.inr rfl)) (pgs_cons (pg_name (i := 2) sc_adjugate_of.nd rfl (by first | exact Or.inl rfl | exact Or.inr rfl)) (pgs_cons (pg_name (i := 3) sc_adjugate_of.nd rfl (by first | exact Or.inl rfl | exact Or.inr rfl)) pgs_nil)))))
    (pss_one (ps_ret (pe_call G_transposed (hr.mono (by decide)) (by rfl) T.g_transposed T.F_transposed.kp T.b_transposed .nil pass0 (pa_cons (pe_tup (pa_cons (pe_call G_cross (hr.mono (by decide)) (by rfl) T.g_cross T.F_cross.kp T.b_cross .nil pass0 (pa_cons (pv 2) (pa_cons (pv 3) pa_nil))) (pa_cons (pe_call G_cross (hr.mono (by decide)) (by rfl) T.g_cross T.F_cross.kp T.b_cross .nil pass0 (pa_cons (pv 3) (pa_cons (pv 1) pa_nil))) (pa_cons (pe_call G_cross (hr.mono (by decide)) (by rfl) T.g_cross T.F_cross.kp T.b_cross .nil pass0 (pa_cons (pv 1) (pa_cons (pv 2) pa_nil))) pa_nil)))) pa_nil))))), fun ds r h => ?_⟩
    obtain ⟨m, n, rfl, rfl, hc⟩ := h
    obtain ⟨hm, hn⟩ := hc
    show Sv K W0 _ [D.t (mat m), D.no, D.no, D.no] _
    refine (sv_then _ (sv_asg (ev_var rfl) (gd_tup rfl (gds_cons (gd_name _ _) (gds_cons (gd_name _ _) (gds_cons (gd_name _ _) gds_nil)))) rfl)
    (sv_ret (ev_call (eva_t (ev_mat (ev_call (eva_t (ev_var rfl) (eva_t (ev_var rfl) eva_nil)) (by walk_at "R_cross")) (ev_call (eva_t (ev_var rfl) (eva_t (ev_var rfl) eva_nil)) (by walk_at "R_cross")) (ev_call (eva_t (ev_var rfl) (eva_t (ev_var rfl) eva_nil)) (by walk_at "R_cross"))) eva_nil) (by walk_at "R_transposed")) ?_))
    rfl
local macro_rules | `(tactic| walk_at "R_adjugate_of") => `(tactic| exact ⟨_, _, rfl, rfl, by walk_at "sm", by first | decide | omega⟩)
theorem sc_has_inverse : FnScope ["matrix"] ["matrix"] (defScope s_has_inverse) := ⟨rfl, rfl, rfl, by decide +kernel, rfl, by decide +kernel, by decide +kernel⟩
def R_has_inverse : List D → D → Prop := fun ds r => ∃ (m : Mat) (n : Nat), ds = [.t (mat m)] ∧ r = .t (.bl (uni m)) ∧ m.sm n ∧ n ≤ 40000
theorem ok_has_inverse (T : Txt K mg) : FnOk P w K mg base CX0 3 T.a_has_inverse T.fd_has_inverse ["matrix"] (spD K R_has_inverse) := by
  refine fn_d T.F_has_inverse sc_has_inverse (fun ds r h => ?_) (fun cdv A outer s H E hr => ?_)
  · obtain ⟨m, n, rfl, _⟩ := h
    rfl
  · have hu := hr.units
    have G_determinant_of : FnOk P w K mg base CX0 2 T.a_determinant_of T.fd_determinant_of ["matrix"] (spD K R_determinant_of) := ok_determinant_of T
    refine ⟨_, (pss_one (ps_ret (pe_cmpR op_eq (pe_callB call_abs (by rfl) T.z_abs (by decide +kernel) (pa_cons (pe_call G_determinant_of (hr.mono (by decide)) (by rfl) T.g_determinant_of T.F_determinant_of.kp T.b_determinant_of .nil pass0 (pa_cons (pv 0) pa_nil)) pa_nil)) pe_int (nomark _)))), fun ds r h => ?_⟩
    obtain ⟨m, n, rfl, rfl, hc⟩ := h
    obtain ⟨hm, hn⟩ := hc
    show Sv K W0 _ [D.t (mat m), ] _
    refine (sv_ret (ev_eqI (ev_abs (ev_call (eva_t (ev_var rfl) eva_nil) (by walk_at "R_determinant_of"))) ev_int) ?_)
    rfl
local macro_rules | `(tactic| walk_at "R_has_inverse") => `(tactic| exact ⟨_, _, rfl, rfl, by walk_at "sm", by first | decide | omega⟩)
theorem sc_inverse_of : FnScope ["matrix", "sign"] ["matrix"] (defScope s_inverse_of) := ⟨rfl, rfl, rfl, by decide +kernel, rfl, by decide +kernel, by decide +kernel⟩
theorem sgn_sm {m : Mat} {n : Nat} (h : m.sm n) : (sgn m).sm (3 * n + 3) := by
  have o : Sm (3 * n + 3) (det m) := sm_det h
  have z : Sm (3 * n + 3) (0 : Int) := (Sm.of (x := 0) 1 (by decide)).mono (by omega)
  exact ⟨⟨o, z, z⟩, ⟨z, o, z⟩, ⟨z, z, o⟩⟩
def R_inverse_of (C : Addr) : List D → Rs → Prop := fun ds r => ∃ (m : Mat) (n : Nat), ds = [.t (mat m)] ∧ r = (if uni m = true then .ok (.t (mat (inv m))) else .er C) ∧ m.sm n ∧ n ≤ 20000
theorem ok_inverse_of (T : Txt K mg) : FnOk P w K mg base (L2.CX P w) 4 T.a_inverse_of T.fd_inverse_of ["matrix"] (spX K (R_inverse_of T.C_BadMatrix)) := by
  refine fn_x T.F_inverse_of sc_inverse_of (fun ds r h => ?_) (fun cdv A outer s H E hr => ?_)
  · obtain ⟨m, n, rfl, _⟩ := h
    rfl
  · have hu := hr.units
    have G_has_inverse : FnOk P w K mg base CX0 3 T.a_has_inverse T.fd_has_inverse ["matrix"] (spD K R_has_inverse) := ok_has_inverse T
    have G_determinant_of : FnOk P w K mg base CX0 2 T.a_determinant_of T.fd_determinant_of ["matrix"] (spD K R_determinant_of) := ok_determinant_of T
    have G_matrix_product : FnOk P w K mg base CX0 3 T.a_matrix_product T.fd_matrix_product ["first", "second"] (spD K R_matrix_product) := ok_matrix_product T
    have G_adjugate_of : FnOk P w K mg base CX0 2 T.a_adjugate_of T.fd_adjugate_of ["matrix"] (spD K R_adjugate_of) := ok_adjugate_of T
    refine ⟨_, (pss_cons (ps_if (pt_not (pt_val (pe_call G_has_inverse (hr.mono (by decide)) (by rfl) T.g_has_inverse T.F_has_inverse.kp T.b_has_inverse .nil pass0 (pa_cons (pv 0) pa_nil)))) (pss_one (ps_raise rfl (takes_of rfl rfl rfl rfl) (pmk_own PySem.F.excBase_ValueError T.x_BadMatrix T.g_BadMatrix T.k_BadMatrix (raises_own T.b_BadMatrix T.t_BadMatrix) rfl))) pss_nil)
    (pss_cons (ps_set (i := 1) sc_inverse_of.nd rfl (by first | exact Or.inl rfl | exact Or.inr rfl) (pe_call G_determinant_of (hr.mono (by decide)) (by rfl) T.g_determinant_of T.F_determinant_of.kp T.b_determinant_of .nil pass0 (pa_cons (pv 0) pa_nil)))
    (pss_one (ps_ret (pe_call G_matrix_product (hr.mono (by decide)) (by rfl) T.g_matrix_product T.F_matrix_product.kp T.b_matrix_product .nil pass0 (pa_cons (pe_call G_adjugate_of (hr.mono (by decide)) (by rfl) T.g_adjugate_of T.F_adjugate_of.kp T.b_adjugate_of .nil pass0 (pa_cons (pv 0) pa_nil)) (pa_cons (pe_tup (pa_cons (pe_tup (pa_cons (pv 1) (pa_cons pe_int (pa_cons pe_int pa_nil)))) (pa_cons (pe_tup (pa_cons pe_int (pa_cons (pv 1) (pa_cons pe_int pa_nil)))) (pa_cons (pe_tup (pa_cons pe_int (pa_cons pe_int (pa_cons (pv 1) pa_nil)))) pa_nil)))) pa_nil))))))), fun ds r h => ?_⟩
    obtain ⟨m, n, rfl, hr, hm, hn⟩ := h
    have hs := sgn_sm hm
    show Sv K _ _ [D.t (mat m), D.no] _
    refine sv_seq (fun G => G = [D.t (mat m), D.no] ∧ uni m = true) (sv_if (evb_not (evb_val (ev_call (eva_t (ev_var rfl) eva_nil) (by walk_at "R_has_inverse")))) (fun h => (sv_raise ?_)) (fun h => (sv_next ⟨rfl, by simpa using h⟩))) ?_
    · show r = .er T.C_BadMatrix
      rw [hr, if_neg (by simpa using h)]
    · rintro G ⟨rfl, hi⟩
      rw [if_pos hi] at hr
      refine (sv_then _ (sv_set (ev_call (eva_t (ev_var rfl) eva_nil) (by walk_at "R_determinant_of")) rfl)
        (sv_ret (ev_call (eva_t (ev_call (eva_t (ev_var rfl) eva_nil) (by walk_at "R_adjugate_of")) (eva_t (ev_mat (ev_row (ev_var rfl) ev_int ev_int) (ev_row ev_int (ev_var rfl) ev_int) (ev_row ev_int ev_int (ev_var rfl))) eva_nil)) (by exact ⟨_, sgn m, _, _, rfl, rfl, by walk_at "sm", hs, by omega, by omega⟩)) ?_))
      exact hr

/-! the law's own defs -/
theorem sc_law_draws : FnScope ["script", "many", "draws", "seed", "cell", "number", "k"] ["script", "many"] (defScope s_law_draws) := ⟨rfl, rfl, rfl, by decide +kernel, rfl, by decide +kernel, by decide +kernel⟩
def R_law_draws : List D → D → Prop := fun ds r => ∃ (ns : List Int) (many : Nat), ds = [.l (intsT ns), .t (.int many)] ∧ r = .l (intsT (drawsM ns many)) ∧ many ≤ 1000
theorem ok_law_draws (T : Txt K mg) : FnOk P w K mg base CX0 1 T.a_law_draws T.fd_law_draws ["script", "many"] (spD K R_law_draws) := by
  refine fn_d T.F_law_draws sc_law_draws (fun ds r h => ?_) (fun cdv A outer s H E hr => ?_)
  · obtain ⟨ns, many, rfl, _⟩ := h
    rfl
  · have hu := hr.units
    refine ⟨_, (pss_cons (ps_set (i := 2) sc_law_draws.nd rfl (by first | exact Or.inl rfl | exact Or.inr rfl) (pe_lst pa_nil))
    (pss_cons (ps_set (i := 3) sc_law_draws.nd rfl (by first | exact Or.inl rfl | exact Or.inr rfl) pe_int)
    (pss_cons (ps_for PassesOwn.never rfl (pki_list K (pk_slL K (pv 0) po_none (po_some pe_int))) (pg_name (i := 4) sc_law_draws.nd rfl (by first | exact Or.inl rfl | exact Or.inr rfl)) (pss_cons (ps_set (i := 5) sc_law_draws.nd rfl (by first | exact Or.inl rfl | exact Or.inr rfl) (pe_callB call_abs (by rfl) T.z_abs (by decide +kernel) (pa_cons (pv 4) pa_nil)))
    (pss_cons (ps_set (i := 3) sc_law_draws.nd rfl (by first | exact Or.inl rfl | exact Or.inr rfl) (pe_op op_mod (pe_callTy call_int1 (by rfl) T.z_int (by decide +kernel) (pa_cons (pe_op op_add (pe_op op_add (pe_op op_mulW (pv 3) pe_int) (pv 5)) pe_int) pa_nil)) pe_int))
    (pss_one (ps_if (pt_cmpR op_ge (pv 5) (pe_op op_pow pe_int pe_int) (nomark _)) (pss_one (ps_for PassesOwn.never rfl (pi_range1 (by rfl) T.z_range (pa_cons pe_int pa_nil)) (pg_name (i := 6) sc_law_draws.nd rfl (by first | exact Or.inl rfl | exact Or.inr rfl)) (pss_one (ps_if (pt_cmpR op_gt (pv 5) pe_int (nomark _)) (pss_cons (ps_expr (pe_bm PySem.F.plainAttrs_list PySem.F.slot_list_append PySem.F.type_list_append mt_append (pv 2) (pa_cons (pe_op op_mod (pe_callTy call_int1 (by rfl) T.z_int (by decide +kernel) (pa_cons (pv 5) pa_nil)) pe_int) pa_nil)))
    (pss_one (ps_set (i := 5) sc_law_draws.nd rfl (by first | exact Or.inl rfl | exact Or.inr rfl) (pe_op op_fdiv (pv 5) pe_int)))) pss_nil)))) (pss_one (ps_expr (pe_bm PySem.F.plainAttrs_list PySem.F.slot_list_append PySem.F.type_list_append mt_append (pv 2) (pa_cons (pe_op op_mod (pe_op op_fdiv (pe_callTy call_int1 (by rfl) T.z_int (by decide +kernel) (pa_cons (pe_op op_add (pe_op op_mulW (pv 3) pe_int) pe_int) pa_nil)) pe_int) pe_int) pa_nil)))))))))
    (pss_cons (ps_for PassesOwn.never rfl (pi_range1 (by rfl) T.z_range (pa_cons (pv 1) pa_nil)) (pg_name (i := 6) sc_law_draws.nd rfl (by first | exact Or.inl rfl | exact Or.inr rfl)) (pss_one (ps_if (pt_cmpR op_lt (pe_callB (ck_len K) (by rfl) T.z_len PySem.boot_len (pa_cons (pv 2) pa_nil)) (pv 1) (nomark _)) (pss_cons (ps_set (i := 3) sc_law_draws.nd rfl (by first | exact Or.inl rfl | exact Or.inr rfl) (pe_op op_mod (pe_callTy call_int1 (by rfl) T.z_int (by decide +kernel) (pa_cons (pe_op op_add (pe_op op_add (pe_op op_mulW (pv 3) pe_int) (pv 6)) pe_int) pa_nil)) pe_int))
    (pss_one (ps_expr (pe_bm PySem.F.plainAttrs_list PySem.F.slot_list_append PySem.F.type_list_append mt_append (pv 2) (pa_cons (pe_op op_mod (pe_op op_fdiv (pe_callTy call_int1 (by rfl) T.z_int (by decide +kernel) (pa_cons (pv 3) pa_nil)) pe_int) pe_int) pa_nil))))) pss_nil)))
    (pss_one (ps_ret (pk_slL K (pv 2) po_none (po_some (pv 1))))))))), fun ds r h => ?_⟩
    obtain ⟨ns, many, rfl, rfl, hm⟩ := h
    show Sv K W0 _ [D.l (intsT ns), D.t (.int many), D.no, D.no, D.no, D.no, D.no] _
    refine sv_then _ (sv_setF (evf_lsts evt_nil (le_ok rfl)) rfl) (sv_then _ (sv_set ev_int rfl) ?_)
    refine sv_seq (fun G => ∃ a b c, G = [D.l (intsT ns), D.t (.int many), D.own (intsT (draws1 (ns.take 63)).2), D.t (.int (draws1 (ns.take 63)).1), a, b, c]) ?_ ?_
    · refine sv_forF (xs := intsT (ns.take 63)) (fun i G => ∃ a b c, G = [D.l (intsT ns), D.t (.int many), D.own (intsT (draws1 ((ns.take 63).take i)).2), D.t (.int (draws1 ((ns.take 63).take i)).1), a, b, c]) (evf_eq (evf_slice (evl_v (by rfl)) evo_none (evo_some ev_int)) (cut_to _ 63)) ⟨_, _, _, rfl⟩ ?_ ?_
      · rintro i x G hx ⟨a, b, c, rfl⟩
        obtain ⟨n, hn, rfl⟩ := intsT_at' hx
        have hi : i < 63 := by
          have := (List.getElem?_eq_some_iff.mp hn).1
          rw [List.length_take] at this
          omega
        have e : draws1 ((ns.take 63).take (i + 1)) = drawStep (draws1 ((ns.take 63).take i)) n := by
          unfold draws1
          rw [take_snoc hn, List.foldl_append]
          rfl
        rw [e]
        have hsm : Sm 32 (draws1 ((ns.take 63).take i)).1 := draws_sm _ _ (by decide)
        have hlen : (draws1 ((ns.take 63).take i)).2.length ≤ 0 + 60 * ((ns.take 63).take i).length := draws_len _ _
        rw [List.length_take, List.length_take] at hlen
        generalize draws1 ((ns.take 63).take i) = st at *
        refine ⟨_, gd_name 4 _, ?_⟩
        refine sv_then _ (sv_set (ev_abs (ev_var rfl)) rfl) (sv_then _ (sv_set (ev_mod (ev_int1 (ev_add (ev_add (ev_mul (ev_var rfl) ev_int (by walk_at "smk")) (ev_var rfl)) ev_int)) ev_int (by decide)) rfl) ?_)
        show Sv K W0 _ [D.l (intsT ns), D.t (.int many), D.own (intsT st.2), D.t (.int (seed1 st.1 (absI n))), D.t (.int n), D.t (.int (absI n)), c] _
        refine sv_if (evb_test (ev_ge (ev_var rfl) (ev_pow ev_int ev_int ⟨by decide, by decide, by decide⟩))) (fun h => ?_) (fun h => ?_)
        · have h' : 1000000000000000000 ≤ absI n := of_decide_eq_true h
          have ed : drawStep st n = (seed1 st.1 (absI n), (itr innerStep 60 (absI n, st.2)).2) := if_pos h'
          rw [ed]
          refine sv_range1 (n := 60) (fun k G => ∃ c, G = [D.l (intsT ns), D.t (.int many), D.own (intsT (itr innerStep k (absI n, st.2)).2), D.t (.int (seed1 st.1 (absI n))), D.t (.int n), D.t (.int (itr innerStep k (absI n, st.2)).1), c]) ev_int (by decide) ⟨_, rfl⟩ ?_ ?_
          · rintro k G hk ⟨c, rfl⟩
            have hl2 := inner_len k (absI n, st.2)
            refine ⟨_, gd_name 6 _, ?_⟩
            have hk60 : k < 60 := hk
            show Sv K W0 _ [D.l (intsT ns), D.t (.int many), D.own (intsT (itr innerStep k (absI n, st.2)).2), D.t (.int (seed1 st.1 (absI n))), D.t (.int n), D.t (.int (itr innerStep k (absI n, st.2)).1), D.t (.int (k : Int))] { toRet _ with nx := fun G => ∃ c, G = [D.l (intsT ns), D.t (.int many), D.own (intsT (innerStep k (itr innerStep k (absI n, st.2))).2), D.t (.int (seed1 st.1 (absI n))), D.t (.int n), D.t (.int (innerStep k (itr innerStep k (absI n, st.2))).1), c], ct := _, bk := _ }
            simp only at hl2
            generalize itr innerStep k (absI n, st.2) = s2 at *
            refine sv_if (evb_test (ev_gt (ev_var rfl) ev_int)) (fun h2 => ?_) (fun h2 => ?_)
            · have e2 : innerStep k s2 = (s2.1 / 1009, s2.2 ++ [s2.1 % 1009]) := if_pos (of_decide_eq_true h2)
              rw [e2]
              refine sv_then _ (sv_append rfl (ev_mod (ev_int1 (ev_var rfl)) ev_int (by decide)) (by rw [intsT_len]; omega) rfl) (sv_set (ev_fdiv (ev_var rfl) ev_int ⟨by decide, by decide⟩) ⟨D.t (.int (k : Int)), ?_⟩)
              rw [intsT_snoc]
              rfl
            · have e2 : innerStep k s2 = s2 := if_neg (of_decide_eq_false h2)
              rw [e2]
              exact sv_next ⟨_, rfl⟩
          · rintro G ⟨c, rfl⟩
            exact ⟨_, _, _, rfl⟩
        · have h' : ¬ 1000000000000000000 ≤ absI n := of_decide_eq_false h
          have ed : drawStep st n = (seed1 st.1 (absI n), st.2 ++ [(seed1 st.1 (absI n) * 16807 + 5) / 3 % 65521]) := if_neg h'
          rw [ed]
          have h32 := seed1_sm st.1 (absI n)
          refine sv_append rfl (ev_mod (ev_fdiv (ev_int1 (ev_add (ev_mul (ev_var rfl) ev_int (by walk_at "smk")) ev_int)) ev_int ⟨by decide, by decide⟩) ev_int (by decide)) (by rw [intsT_len]; omega) ⟨D.t (.int n), D.t (.int (absI n)), c, ?_⟩
          rw [intsT_snoc]
          rfl
      · rintro G ⟨a, b, c, rfl⟩
        rw [intsT_len, List.take_length]
        exact ⟨_, _, _, rfl⟩
    · rintro G ⟨a, b, c, rfl⟩
      have hsm1 : Sm 32 (draws1 (ns.take 63)).1 := draws_sm _ _ (by decide)
      have hlen1 : (draws1 (ns.take 63)).2.length ≤ 0 + 60 * (ns.take 63).length := draws_len _ _
      rw [List.length_take] at hlen1
      refine sv_seq (fun G => ∃ a b c s, G = [D.l (intsT ns), D.t (.int many), D.own (intsT (draws2 ns many).2), s, a, b, c]) ?_ ?_
      · refine sv_range1 (n := (many : Int)) (fun k G => ∃ a b c, G = [D.l (intsT ns), D.t (.int many), D.own (intsT (itr (fillStep many) k (draws1 (ns.take 63))).2), D.t (.int (itr (fillStep many) k (draws1 (ns.take 63))).1), a, b, c]) (ev_var rfl) (by omega) ⟨_, _, _, rfl⟩ ?_ ?_
        · rintro k G hk ⟨a, b, c, rfl⟩
          have hk' : k < many := hk
          have hl2 := (fill_len many k (draws1 (ns.take 63))).1
          have hs2 := fill_sm many k hsm1
          refine ⟨_, gd_name 6 _, ?_⟩
          show Sv K W0 _ [D.l (intsT ns), D.t (.int many), D.own (intsT (itr (fillStep many) k (draws1 (ns.take 63))).2), D.t (.int (itr (fillStep many) k (draws1 (ns.take 63))).1), a, b, D.t (.int (k : Int))] { toRet _ with nx := fun G => ∃ a b c, G = [D.l (intsT ns), D.t (.int many), D.own (intsT (fillStep many k (itr (fillStep many) k (draws1 (ns.take 63)))).2), D.t (.int (fillStep many k (itr (fillStep many) k (draws1 (ns.take 63)))).1), a, b, c], ct := _, bk := _ }
          generalize itr (fillStep many) k (draws1 (ns.take 63)) = s2 at *
          refine sv_if (evb_test (ev_lt (ev_lenL (evl_v (by rfl))) (ev_var rfl))) (fun h2 => ?_) (fun h2 => ?_)
          · have h3 : s2.2.length < many := by
              have := of_decide_eq_true h2
              rw [intsT_len] at this
              omega
            have e2 : fillStep many k s2 = (seed2 s2.1 k, s2.2 ++ [seed2 s2.1 k / 7 % 65521]) := if_pos h3
            rw [e2]
            refine sv_then _ (sv_set (ev_mod (ev_int1 (ev_add (ev_add (ev_mul (ev_var rfl) ev_int (by walk_at "smk")) (ev_var rfl)) ev_int)) ev_int (by decide)) rfl) (sv_append rfl (ev_mod (ev_fdiv (ev_int1 (ev_var rfl)) ev_int ⟨by decide, by decide⟩) ev_int (by decide)) (by rw [intsT_len]; omega) ⟨a, b, D.t (.int (k : Int)), ?_⟩)
            rw [intsT_snoc]
            rfl
          · have h3 : ¬ s2.2.length < many := by
              have := of_decide_eq_false h2
              rw [intsT_len] at this
              omega
            have e2 : fillStep many k s2 = s2 := if_neg h3
            rw [e2]
            exact sv_next ⟨_, _, _, rfl⟩
        · rintro G ⟨a, b, c, rfl⟩
          exact ⟨_, _, _, _, rfl⟩
      · rintro G ⟨a, b, c, s, rfl⟩
        exact sv_retF (evf_eq (evf_slice (evl_v (by rfl)) evo_none (evo_some (ev_var rfl))) (cut_to _ many)) rfl
local macro_rules | `(tactic| walk_at "R_law_draws") => `(tactic| exact ⟨_, 40, rfl, rfl, by decide⟩)
theorem sc_law_image : FnScope ["matrix", "row", "line"] ["matrix", "row"] (defScope s_law_image) := ⟨rfl, rfl, rfl, by decide +kernel, rfl, by decide +kernel, by decide +kernel⟩
def R_law_image : List D → D → Prop := fun ds r => ∃ (m : Mat) (v : Row) (n k : Nat), ds = [.t (mat m), .t (row v)] ∧ r = .t (row (image m v)) ∧ m.sm n ∧ v.sm k ∧ n ≤ 90000 ∧ k ≤ 90000
theorem ok_law_image (T : Txt K mg) : FnOk P w K mg base CX0 1 T.a_law_image T.fd_law_image ["matrix", "row"] (spD K R_law_image) := by
  refine fn_d T.F_law_image sc_law_image (fun ds r h => ?_) (fun cdv A outer s H E hr => ?_)
  · obtain ⟨m, v, n, k, rfl, _⟩ := h
    rfl
  · have hu := hr.units
    skip
    refine ⟨_, (pss_one (ps_ret (pk_tupleOf K (by rfl) T.z_tuple (pe_lc (own := [("line", 2)]) (g := (gName 2)) rfl sc_law_image.nd (pki_tup K (pv 0)) (blkOk_by (own := [("line", 2)]) (N := ["matrix", "row", "line"]) (sc := defScope s_law_image) (by decide +kernel)) (fun _ _ _ _ _ => (pg_name (i := 2) sc_law_image.nd rfl (by first | exact Or.inl rfl | exact Or.inr rfl))) (fun _ _ _ _ _ => pts_nil) (fun _ _ _ _ _ => (pe_op op_add (pe_op op_add (pe_op op_mulW (pk_ixT K (pv 2) pe_int (fun _ _ => rfl)) (pk_ixT K (pv 1) pe_int (fun _ _ => rfl))) (pe_op op_mulW (pk_ixT K (pv 2) pe_int (fun _ _ => rfl)) (pk_ixT K (pv 1) pe_int (fun _ _ => rfl)))) (pe_op op_mulW (pk_ixT K (pv 2) pe_int (fun _ _ => rfl)) (pk_ixT K (pv 1) pe_int (fun _ _ => rfl))))))))), fun ds r h => ?_⟩
    obtain ⟨m, v, n, k, rfl, rfl, hc⟩ := h
    obtain ⟨hm, hk, hn, hn2⟩ := hc
    show Sv K W0 _ [D.t (mat m), D.t (row v), D.no] _
    refine (sv_ret (ev_asrow (ev_tupleL (evl_f (evf_lcT3 (ev_var rfl) (ev_add (ev_add (ev_mul (ev_ixT (ev_var rfl) ev_int (by rfl)) (ev_ixT (ev_var rfl) ev_int (by rfl)) (by walk_at "smk")) (ev_mul (ev_ixT (ev_var rfl) ev_int (by rfl)) (ev_ixT (ev_var rfl) ev_int (by rfl)) (by walk_at "smk"))) (ev_mul (ev_ixT (ev_var rfl) ev_int (by rfl)) (ev_ixT (ev_var rfl) ev_int (by rfl)) (by walk_at "smk"))) (ev_add (ev_add (ev_mul (ev_ixT (ev_var rfl) ev_int (by rfl)) (ev_ixT (ev_var rfl) ev_int (by rfl)) (by walk_at "smk")) (ev_mul (ev_ixT (ev_var rfl) ev_int (by rfl)) (ev_ixT (ev_var rfl) ev_int (by rfl)) (by walk_at "smk"))) (ev_mul (ev_ixT (ev_var rfl) ev_int (by rfl)) (ev_ixT (ev_var rfl) ev_int (by rfl)) (by walk_at "smk"))) (ev_add (ev_add (ev_mul (ev_ixT (ev_var rfl) ev_int (by rfl)) (ev_ixT (ev_var rfl) ev_int (by rfl)) (by walk_at "smk")) (ev_mul (ev_ixT (ev_var rfl) ev_int (by rfl)) (ev_ixT (ev_var rfl) ev_int (by rfl)) (by walk_at "smk"))) (ev_mul (ev_ixT (ev_var rfl) ev_int (by rfl)) (ev_ixT (ev_var rfl) ev_int (by rfl)) (by walk_at "smk"))))))) ?_)
    rfl
local macro_rules | `(tactic| walk_at "R_law_image") => `(tactic| exact ⟨_, _, _, _, rfl, rfl, by walk_at "sm", by walk_at "sm", by first | decide | omega, by first | decide | omega⟩)
theorem sc_law_times : FnScope ["first", "second", "found", "i", "j"] ["first", "second"] (defScope s_law_times) := ⟨rfl, rfl, rfl, by decide +kernel, rfl, by decide +kernel, by decide +kernel⟩
def R_law_times : List D → D → Prop := fun ds r => ∃ (m q : Mat) (n k : Nat), ds = [.t (mat m), .t (mat q)] ∧ r = .t (mat (mul m q)) ∧ m.sm n ∧ q.sm k ∧ n ≤ 90000 ∧ k ≤ 90000
theorem ok_law_times (T : Txt K mg) : FnOk P w K mg base CX0 1 T.a_law_times T.fd_law_times ["first", "second"] (spD K R_law_times) := by
  refine fn_d T.F_law_times sc_law_times (fun ds r h => ?_) (fun cdv A outer s H E hr => ?_)
  · obtain ⟨m, q, n, k, rfl, _⟩ := h
    rfl
  · have hu := hr.units
    skip
    refine ⟨_, (pss_cons (ps_set (i := 2) sc_law_times.nd rfl (by first | exact Or.inl rfl | exact Or.inr rfl) (pe_lst pa_nil))
    (pss_cons (ps_for PassesOwn.never rfl (pi_range1 (by rfl) T.z_range (pa_cons pe_int pa_nil)) (pg_name (i := 3) sc_law_times.nd rfl (by first | exact Or.inl rfl | exact Or.inr rfl)) (pss_one (ps_expr (pe_bm PySem.F.plainAttrs_list PySem.F.slot_list_append PySem.F.type_list_append mt_append (pv 2) (pa_cons (pk_tupleOf K (by rfl) T.z_tuple (pe_lc (own := [("j", 4)]) (g := (gName 4)) rfl sc_law_times.nd (pi_range1 (by rfl) T.z_range (pa_cons pe_int pa_nil)) (blkOk_by (own := [("j", 4)]) (N := ["first", "second", "found", "i", "j"]) (sc := defScope s_law_times) (by decide +kernel)) (fun _ _ _ _ _ => (pg_name (i := 4) sc_law_times.nd rfl (by first | exact Or.inl rfl | exact Or.inr rfl))) (fun _ _ _ _ _ => pts_nil) (fun _ _ _ _ _ => (pe_op op_add (pe_op op_add (pe_op op_mulW (pk_ixT K (pk_ixT K (pv 0) (pv 3) (fun _ _ => rfl)) pe_int (fun _ _ => rfl)) (pk_ixT K (pk_ixT K (pv 1) pe_int (fun _ _ => rfl)) (pv 4) (fun _ _ => rfl))) (pe_op op_mulW (pk_ixT K (pk_ixT K (pv 0) (pv 3) (fun _ _ => rfl)) pe_int (fun _ _ => rfl)) (pk_ixT K (pk_ixT K (pv 1) pe_int (fun _ _ => rfl)) (pv 4) (fun _ _ => rfl)))) (pe_op op_mulW (pk_ixT K (pk_ixT K (pv 0) (pv 3) (fun _ _ => rfl)) pe_int (fun _ _ => rfl)) (pk_ixT K (pk_ixT K (pv 1) pe_int (fun _ _ => rfl)) (pv 4) (fun _ _ => rfl))))))) pa_nil)))))
    (pss_one (ps_ret (pk_tupleOf K (by rfl) T.z_tuple (pv 2)))))), fun ds r h => ?_⟩
    obtain ⟨m, q, n, k, rfl, rfl, hc⟩ := h
    obtain ⟨hm, hk, hn, hn2⟩ := hc
    show Sv K W0 _ [D.t (mat m), D.t (mat q), D.no, D.no, D.no] _
    refine (sv_then _ (sv_setF (evf_lsts evt_nil (le_ok rfl)) rfl)
    (sv_then _ (sv_range3 (sv_append rfl (ev_asrow (ev_tupleL (evl_f (evf_lcR3 (ev_add (ev_add (ev_mul (ev_ixT (ev_ixT (ev_var rfl) (ev_var rfl) (by rfl)) ev_int (by rfl)) (ev_ixT (ev_ixT (ev_var rfl) ev_int (by rfl)) (ev_var rfl) (by rfl)) (by walk_at "smk")) (ev_mul (ev_ixT (ev_ixT (ev_var rfl) (ev_var rfl) (by rfl)) ev_int (by rfl)) (ev_ixT (ev_ixT (ev_var rfl) ev_int (by rfl)) (ev_var rfl) (by rfl)) (by walk_at "smk"))) (ev_mul (ev_ixT (ev_ixT (ev_var rfl) (ev_var rfl) (by rfl)) ev_int (by rfl)) (ev_ixT (ev_ixT (ev_var rfl) ev_int (by rfl)) (ev_var rfl) (by rfl)) (by walk_at "smk"))) (ev_add (ev_add (ev_mul (ev_ixT (ev_ixT (ev_var rfl) (ev_var rfl) (by rfl)) ev_int (by rfl)) (ev_ixT (ev_ixT (ev_var rfl) ev_int (by rfl)) (ev_var rfl) (by rfl)) (by walk_at "smk")) (ev_mul (ev_ixT (ev_ixT (ev_var rfl) (ev_var rfl) (by rfl)) ev_int (by rfl)) (ev_ixT (ev_ixT (ev_var rfl) ev_int (by rfl)) (ev_var rfl) (by rfl)) (by walk_at "smk"))) (ev_mul (ev_ixT (ev_ixT (ev_var rfl) (ev_var rfl) (by rfl)) ev_int (by rfl)) (ev_ixT (ev_ixT (ev_var rfl) ev_int (by rfl)) (ev_var rfl) (by rfl)) (by walk_at "smk"))) (ev_add (ev_add (ev_mul (ev_ixT (ev_ixT (ev_var rfl) (ev_var rfl) (by rfl)) ev_int (by rfl)) (ev_ixT (ev_ixT (ev_var rfl) ev_int (by rfl)) (ev_var rfl) (by rfl)) (by walk_at "smk")) (ev_mul (ev_ixT (ev_ixT (ev_var rfl) (ev_var rfl) (by rfl)) ev_int (by rfl)) (ev_ixT (ev_ixT (ev_var rfl) ev_int (by rfl)) (ev_var rfl) (by rfl)) (by walk_at "smk"))) (ev_mul (ev_ixT (ev_ixT (ev_var rfl) (ev_var rfl) (by rfl)) ev_int (by rfl)) (ev_ixT (ev_ixT (ev_var rfl) ev_int (by rfl)) (ev_var rfl) (by rfl)) (by walk_at "smk"))))))) (lt_ok rfl) rfl)
      (sv_append rfl (ev_asrow (ev_tupleL (evl_f (evf_lcR3 (ev_add (ev_add (ev_mul (ev_ixT (ev_ixT (ev_var rfl) (ev_var rfl) (by rfl)) ev_int (by rfl)) (ev_ixT (ev_ixT (ev_var rfl) ev_int (by rfl)) (ev_var rfl) (by rfl)) (by walk_at "smk")) (ev_mul (ev_ixT (ev_ixT (ev_var rfl) (ev_var rfl) (by rfl)) ev_int (by rfl)) (ev_ixT (ev_ixT (ev_var rfl) ev_int (by rfl)) (ev_var rfl) (by rfl)) (by walk_at "smk"))) (ev_mul (ev_ixT (ev_ixT (ev_var rfl) (ev_var rfl) (by rfl)) ev_int (by rfl)) (ev_ixT (ev_ixT (ev_var rfl) ev_int (by rfl)) (ev_var rfl) (by rfl)) (by walk_at "smk"))) (ev_add (ev_add (ev_mul (ev_ixT (ev_ixT (ev_var rfl) (ev_var rfl) (by rfl)) ev_int (by rfl)) (ev_ixT (ev_ixT (ev_var rfl) ev_int (by rfl)) (ev_var rfl) (by rfl)) (by walk_at "smk")) (ev_mul (ev_ixT (ev_ixT (ev_var rfl) (ev_var rfl) (by rfl)) ev_int (by rfl)) (ev_ixT (ev_ixT (ev_var rfl) ev_int (by rfl)) (ev_var rfl) (by rfl)) (by walk_at "smk"))) (ev_mul (ev_ixT (ev_ixT (ev_var rfl) (ev_var rfl) (by rfl)) ev_int (by rfl)) (ev_ixT (ev_ixT (ev_var rfl) ev_int (by rfl)) (ev_var rfl) (by rfl)) (by walk_at "smk"))) (ev_add (ev_add (ev_mul (ev_ixT (ev_ixT (ev_var rfl) (ev_var rfl) (by rfl)) ev_int (by rfl)) (ev_ixT (ev_ixT (ev_var rfl) ev_int (by rfl)) (ev_var rfl) (by rfl)) (by walk_at "smk")) (ev_mul (ev_ixT (ev_ixT (ev_var rfl) (ev_var rfl) (by rfl)) ev_int (by rfl)) (ev_ixT (ev_ixT (ev_var rfl) ev_int (by rfl)) (ev_var rfl) (by rfl)) (by walk_at "smk"))) (ev_mul (ev_ixT (ev_ixT (ev_var rfl) (ev_var rfl) (by rfl)) ev_int (by rfl)) (ev_ixT (ev_ixT (ev_var rfl) ev_int (by rfl)) (ev_var rfl) (by rfl)) (by walk_at "smk"))))))) (lt_ok rfl) rfl)
      (sv_append rfl (ev_asrow (ev_tupleL (evl_f (evf_lcR3 (ev_add (ev_add (ev_mul (ev_ixT (ev_ixT (ev_var rfl) (ev_var rfl) (by rfl)) ev_int (by rfl)) (ev_ixT (ev_ixT (ev_var rfl) ev_int (by rfl)) (ev_var rfl) (by rfl)) (by walk_at "smk")) (ev_mul (ev_ixT (ev_ixT (ev_var rfl) (ev_var rfl) (by rfl)) ev_int (by rfl)) (ev_ixT (ev_ixT (ev_var rfl) ev_int (by rfl)) (ev_var rfl) (by rfl)) (by walk_at "smk"))) (ev_mul (ev_ixT (ev_ixT (ev_var rfl) (ev_var rfl) (by rfl)) ev_int (by rfl)) (ev_ixT (ev_ixT (ev_var rfl) ev_int (by rfl)) (ev_var rfl) (by rfl)) (by walk_at "smk"))) (ev_add (ev_add (ev_mul (ev_ixT (ev_ixT (ev_var rfl) (ev_var rfl) (by rfl)) ev_int (by rfl)) (ev_ixT (ev_ixT (ev_var rfl) ev_int (by rfl)) (ev_var rfl) (by rfl)) (by walk_at "smk")) (ev_mul (ev_ixT (ev_ixT (ev_var rfl) (ev_var rfl) (by rfl)) ev_int (by rfl)) (ev_ixT (ev_ixT (ev_var rfl) ev_int (by rfl)) (ev_var rfl) (by rfl)) (by walk_at "smk"))) (ev_mul (ev_ixT (ev_ixT (ev_var rfl) (ev_var rfl) (by rfl)) ev_int (by rfl)) (ev_ixT (ev_ixT (ev_var rfl) ev_int (by rfl)) (ev_var rfl) (by rfl)) (by walk_at "smk"))) (ev_add (ev_add (ev_mul (ev_ixT (ev_ixT (ev_var rfl) (ev_var rfl) (by rfl)) ev_int (by rfl)) (ev_ixT (ev_ixT (ev_var rfl) ev_int (by rfl)) (ev_var rfl) (by rfl)) (by walk_at "smk")) (ev_mul (ev_ixT (ev_ixT (ev_var rfl) (ev_var rfl) (by rfl)) ev_int (by rfl)) (ev_ixT (ev_ixT (ev_var rfl) ev_int (by rfl)) (ev_var rfl) (by rfl)) (by walk_at "smk"))) (ev_mul (ev_ixT (ev_ixT (ev_var rfl) (ev_var rfl) (by rfl)) ev_int (by rfl)) (ev_ixT (ev_ixT (ev_var rfl) ev_int (by rfl)) (ev_var rfl) (by rfl)) (by walk_at "smk"))))))) (lt_ok rfl) rfl) rfl)
    (sv_ret (ev_asmat (ev_tupleL (evl_v (by rfl)))) ?_)))
    show D.t (mat _) = D.t (mat _)
    refine congrArg (fun z => D.t (mat z)) ?_
    apply Mat.ext' <;> apply Row.ext' <;> (simp only [mul, image, dot, Mat.tr]; grind)
local macro_rules | `(tactic| walk_at "R_law_times") => `(tactic| exact ⟨_, _, _, _, rfl, rfl, by walk_at "sm", by walk_at "sm", by first | decide | omega, by first | decide | omega⟩)
theorem sc_law_det : FnScope ["m", "first", "second"] ["m"] (defScope s_law_det) := ⟨rfl, rfl, rfl, by decide +kernel, rfl, by decide +kernel, by decide +kernel⟩
def R_law_det : List D → D → Prop := fun ds r => ∃ (m : Mat) (n : Nat), ds = [.t (mat m)] ∧ r = .t (.int (det m)) ∧ m.sm n ∧ n ≤ 40000
theorem ok_law_det (T : Txt K mg) : FnOk P w K mg base CX0 1 T.a_law_det T.fd_law_det ["m"] (spD K R_law_det) := by
  refine fn_d T.F_law_det sc_law_det (fun ds r h => ?_) (fun cdv A outer s H E hr => ?_)
  · obtain ⟨m, n, rfl, _⟩ := h
    rfl
  · have hu := hr.units
    skip
    refine ⟨_, (pss_cons (ps_set (i := 1) sc_law_det.nd rfl (by first | exact Or.inl rfl | exact Or.inr rfl) (pe_op op_mulW (pk_ixT K (pk_ixT K (pv 0) pe_int (fun _ _ => rfl)) pe_int (fun _ _ => rfl)) (pe_op op_sub (pe_op op_mulW (pk_ixT K (pk_ixT K (pv 0) pe_int (fun _ _ => rfl)) pe_int (fun _ _ => rfl)) (pk_ixT K (pk_ixT K (pv 0) pe_int (fun _ _ => rfl)) pe_int (fun _ _ => rfl))) (pe_op op_mulW (pk_ixT K (pk_ixT K (pv 0) pe_int (fun _ _ => rfl)) pe_int (fun _ _ => rfl)) (pk_ixT K (pk_ixT K (pv 0) pe_int (fun _ _ => rfl)) pe_int (fun _ _ => rfl))))))
    (pss_cons (ps_set (i := 2) sc_law_det.nd rfl (by first | exact Or.inl rfl | exact Or.inr rfl) (pe_op op_mulW (pk_ixT K (pk_ixT K (pv 0) pe_int (fun _ _ => rfl)) pe_int (fun _ _ => rfl)) (pe_op op_sub (pe_op op_mulW (pk_ixT K (pk_ixT K (pv 0) pe_int (fun _ _ => rfl)) pe_int (fun _ _ => rfl)) (pk_ixT K (pk_ixT K (pv 0) pe_int (fun _ _ => rfl)) pe_int (fun _ _ => rfl))) (pe_op op_mulW (pk_ixT K (pk_ixT K (pv 0) pe_int (fun _ _ => rfl)) pe_int (fun _ _ => rfl)) (pk_ixT K (pk_ixT K (pv 0) pe_int (fun _ _ => rfl)) pe_int (fun _ _ => rfl))))))
    (pss_one (ps_ret (pe_op op_add (pe_op op_sub (pv 1) (pv 2)) (pe_op op_mulW (pk_ixT K (pk_ixT K (pv 0) pe_int (fun _ _ => rfl)) pe_int (fun _ _ => rfl)) (pe_op op_sub (pe_op op_mulW (pk_ixT K (pk_ixT K (pv 0) pe_int (fun _ _ => rfl)) pe_int (fun _ _ => rfl)) (pk_ixT K (pk_ixT K (pv 0) pe_int (fun _ _ => rfl)) pe_int (fun _ _ => rfl))) (pe_op op_mulW (pk_ixT K (pk_ixT K (pv 0) pe_int (fun _ _ => rfl)) pe_int (fun _ _ => rfl)) (pk_ixT K (pk_ixT K (pv 0) pe_int (fun _ _ => rfl)) pe_int (fun _ _ => rfl)))))))))), fun ds r h => ?_⟩
    obtain ⟨m, n, rfl, rfl, hc⟩ := h
    obtain ⟨hm, hn⟩ := hc
    show Sv K W0 _ [D.t (mat m), D.no, D.no] _
    refine (sv_then _ (sv_set (ev_mul (ev_ixT (ev_ixT (ev_var rfl) ev_int (by rfl)) ev_int (by rfl)) (ev_sub (ev_mul (ev_ixT (ev_ixT (ev_var rfl) ev_int (by rfl)) ev_int (by rfl)) (ev_ixT (ev_ixT (ev_var rfl) ev_int (by rfl)) ev_int (by rfl)) (by walk_at "smk")) (ev_mul (ev_ixT (ev_ixT (ev_var rfl) ev_int (by rfl)) ev_int (by rfl)) (ev_ixT (ev_ixT (ev_var rfl) ev_int (by rfl)) ev_int (by rfl)) (by walk_at "smk"))) (by walk_at "smk")) rfl)
    (sv_then _ (sv_set (ev_mul (ev_ixT (ev_ixT (ev_var rfl) ev_int (by rfl)) ev_int (by rfl)) (ev_sub (ev_mul (ev_ixT (ev_ixT (ev_var rfl) ev_int (by rfl)) ev_int (by rfl)) (ev_ixT (ev_ixT (ev_var rfl) ev_int (by rfl)) ev_int (by rfl)) (by walk_at "smk")) (ev_mul (ev_ixT (ev_ixT (ev_var rfl) ev_int (by rfl)) ev_int (by rfl)) (ev_ixT (ev_ixT (ev_var rfl) ev_int (by rfl)) ev_int (by rfl)) (by walk_at "smk"))) (by walk_at "smk")) rfl)
    (sv_ret (ev_add (ev_sub (ev_var rfl) (ev_var rfl)) (ev_mul (ev_ixT (ev_ixT (ev_var rfl) ev_int (by rfl)) ev_int (by rfl)) (ev_sub (ev_mul (ev_ixT (ev_ixT (ev_var rfl) ev_int (by rfl)) ev_int (by rfl)) (ev_ixT (ev_ixT (ev_var rfl) ev_int (by rfl)) ev_int (by rfl)) (by walk_at "smk")) (ev_mul (ev_ixT (ev_ixT (ev_var rfl) ev_int (by rfl)) ev_int (by rfl)) (ev_ixT (ev_ixT (ev_var rfl) ev_int (by rfl)) ev_int (by rfl)) (by walk_at "smk"))) (by walk_at "smk"))) ?_)))
    refine congrArg (fun z => D.t (.int z)) ?_
    simp only [det, dot, cross]; grind
local macro_rules | `(tactic| walk_at "R_law_det") => `(tactic| exact ⟨_, _, rfl, rfl, by walk_at "sm", by first | decide | omega⟩)
local macro_rules | `(tactic| walk_at "item") => `(tactic| first | exact Cz.dr_at rfl (by omega) | exact Cz.dr_at' (by first | decide | omega) (by first | omega | (simp only [Int.reduceToNat, Int.reduceMul, Int.reduceAdd]; omega)) | exact Kx.atI_far _ | exact Kx.atI_pairs _ | exact Kx.atI_vals _)
theorem sc_law_row : FnScope ["draws", "most", "k"] ["draws", "most"] (defScope s_law_row) := ⟨rfl, rfl, rfl, by decide +kernel, rfl, by decide +kernel, by decide +kernel⟩
def R_law_row : List D → D → Prop := fun ds r => ∃ (ds0 : List Int) (most : Int), ds = [.l (intsT ds0), .t (.int most)] ∧ r = .t (row (rowM ds0 most)) ∧ 3 ≤ ds0.length ∧ 0 ≤ most ∧ most < 1000
theorem ok_law_row (T : Txt K mg) : FnOk P w K mg base CX0 1 T.a_law_row T.fd_law_row ["draws", "most"] (spD K R_law_row) := by
  refine fn_d T.F_law_row sc_law_row (fun ds r h => ?_) (fun cdv A outer s H E hr => ?_)
  · obtain ⟨ds0, most, rfl, _⟩ := h
    rfl
  · have hu := hr.units
    skip
    refine ⟨_, (pss_one (ps_ret (pk_tupleOf K (by rfl) T.z_tuple (pe_lc (own := [("k", 2)]) (g := (gName 2)) rfl sc_law_row.nd (pi_range1 (by rfl) T.z_range (pa_cons pe_int pa_nil)) (blkOk_by (own := [("k", 2)]) (N := ["draws", "most", "k"]) (sc := defScope s_law_row) (by decide +kernel)) (fun _ _ _ _ _ => (pg_name (i := 2) sc_law_row.nd rfl (by first | exact Or.inl rfl | exact Or.inr rfl))) (fun _ _ _ _ _ => pts_nil) (fun _ _ _ _ _ => (pe_op op_sub (pe_op op_mod (pe_callTy call_int1 (by rfl) T.z_int (by decide +kernel) (pa_cons (pk_ixL K (pv 0) (pv 2) (fun _ _ => rfl)) pa_nil)) (pe_op op_add (pe_op op_mulW pe_int (pv 1)) pe_int)) (pv 1))))))), fun ds r h => ?_⟩
    obtain ⟨ds0, most, rfl, rfl, hc⟩ := h
    obtain ⟨hl, h0, h1⟩ := hc
    have hsm : Sm 20 most := by unfold Sm; omega
    show Sv K W0 _ [D.l (intsT ds0), D.t (.int most), D.no] _
    refine (sv_ret (ev_asrow (ev_tupleL (evl_f (evf_lcR3 (ev_sub (ev_mod (ev_int1 (ev_ixL (evl_v (by rfl)) (ev_var rfl) (by walk_at "item"))) (ev_add (ev_mul ev_int (ev_var rfl) (by walk_at "smk")) ev_int) (by first | decide | omega)) (ev_var rfl)) (ev_sub (ev_mod (ev_int1 (ev_ixL (evl_v (by rfl)) (ev_var rfl) (by walk_at "item"))) (ev_add (ev_mul ev_int (ev_var rfl) (by walk_at "smk")) ev_int) (by first | decide | omega)) (ev_var rfl)) (ev_sub (ev_mod (ev_int1 (ev_ixL (evl_v (by rfl)) (ev_var rfl) (by walk_at "item"))) (ev_add (ev_mul ev_int (ev_var rfl) (by walk_at "smk")) ev_int) (by first | decide | omega)) (ev_var rfl)))))) ?_)
    rfl
local macro_rules | `(tactic| walk_at "R_law_row") => `(tactic| exact ⟨_, _, rfl, rfl, by rw [List.length_drop]; omega, by decide, by decide⟩)
theorem sc_law_table : FnScope ["draws", "far", "lines", "i", "j"] ["draws", "far"] (defScope s_law_table) := ⟨rfl, rfl, rfl, by decide +kernel, rfl, by decide +kernel, by decide +kernel⟩
def R_law_table : List D → D → Prop := fun ds r => ∃ (ds0 : List Int) (far : Int), ds = [.l (intsT ds0), .t (.int far)] ∧ r = .t (mat (tableM ds0 far)) ∧ 9 ≤ ds0.length ∧ Sm 70 far
theorem ok_law_table (T : Txt K mg) : FnOk P w K mg base CX0 1 T.a_law_table T.fd_law_table ["draws", "far"] (spD K R_law_table) := by
  refine fn_d T.F_law_table sc_law_table (fun ds r h => ?_) (fun cdv A outer s H E hr => ?_)
  · obtain ⟨ds0, far, rfl, _⟩ := h
    rfl
  · have hu := hr.units
    skip
    refine ⟨_, (pss_cons (ps_set (i := 2) sc_law_table.nd rfl (by first | exact Or.inl rfl | exact Or.inr rfl) (pe_lst pa_nil))
    (pss_cons (ps_for PassesOwn.never rfl (pi_range1 (by rfl) T.z_range (pa_cons pe_int pa_nil)) (pg_name (i := 3) sc_law_table.nd rfl (by first | exact Or.inl rfl | exact Or.inr rfl)) (pss_one (ps_expr (pe_bm PySem.F.plainAttrs_list PySem.F.slot_list_append PySem.F.type_list_append mt_append (pv 2) (pa_cons (pk_tupleOf K (by rfl) T.z_tuple (pe_lc (own := [("j", 4)]) (g := (gName 4)) rfl sc_law_table.nd (pi_range1 (by rfl) T.z_range (pa_cons pe_int pa_nil)) (blkOk_by (own := [("j", 4)]) (N := ["draws", "far", "lines", "i", "j"]) (sc := defScope s_law_table) (by decide +kernel)) (fun _ _ _ _ _ => (pg_name (i := 4) sc_law_table.nd rfl (by first | exact Or.inl rfl | exact Or.inr rfl))) (fun _ _ _ _ _ => pts_nil) (fun _ _ _ _ _ => (pe_op op_add (pe_op op_mulW (pe_op op_sub (pe_op op_mod (pe_callTy call_int1 (by rfl) T.z_int (by decide +kernel) (pa_cons (pk_ixL K (pv 0) (pe_op op_add (pe_op op_mulW pe_int (pv 3)) (pv 4)) (fun _ _ => rfl)) pa_nil)) pe_int) pe_int) (pv 1)) (pe_op op_mulW (pe_op op_mod (pe_callTy call_int1 (by rfl) T.z_int (by decide +kernel) (pa_cons (pe_op op_fdiv (pk_ixL K (pv 0) (pe_op op_add (pe_op op_mulW pe_int (pv 3)) (pv 4)) (fun _ _ => rfl)) pe_int) pa_nil)) pe_int) (pe_callTy call_int1 (by rfl) T.z_int (by decide +kernel) (pa_cons (pe_cmpR op_gt (pv 1) pe_int (nomark _)) pa_nil))))))) pa_nil)))))
    (pss_one (ps_ret (pk_tupleOf K (by rfl) T.z_tuple (pv 2)))))), fun ds r h => ?_⟩
    obtain ⟨ds0, far, rfl, rfl, hc⟩ := h
    obtain ⟨hl, hsm⟩ := hc
    show Sv K W0 _ [D.l (intsT ds0), D.t (.int far), D.no, D.no, D.no] _
    refine (sv_then _ (sv_setF (evf_lsts evt_nil (le_ok rfl)) rfl)
    (sv_then _ (sv_range3 (sv_append rfl (ev_asrow (ev_tupleL (evl_f (evf_lcR3 (ev_add (ev_mul (ev_sub (ev_mod (ev_int1 (ev_ixL (evl_v (by rfl)) (ev_add (ev_mul ev_int (ev_var rfl) (by walk_at "smk")) (ev_var rfl)) (by walk_at "item"))) ev_int (by first | decide | omega)) ev_int) (ev_var rfl) (by walk_at "smk")) (ev_mul (ev_mod (ev_int1 (ev_fdiv (ev_ixL (evl_v (by rfl)) (ev_add (ev_mul ev_int (ev_var rfl) (by walk_at "smk")) (ev_var rfl)) (by walk_at "item")) ev_int ⟨by decide, by decide⟩)) ev_int (by first | decide | omega)) (ev_intB (ev_gt (ev_var rfl) ev_int)) (by walk_at "smk"))) (ev_add (ev_mul (ev_sub (ev_mod (ev_int1 (ev_ixL (evl_v (by rfl)) (ev_add (ev_mul ev_int (ev_var rfl) (by walk_at "smk")) (ev_var rfl)) (by walk_at "item"))) ev_int (by first | decide | omega)) ev_int) (ev_var rfl) (by walk_at "smk")) (ev_mul (ev_mod (ev_int1 (ev_fdiv (ev_ixL (evl_v (by rfl)) (ev_add (ev_mul ev_int (ev_var rfl) (by walk_at "smk")) (ev_var rfl)) (by walk_at "item")) ev_int ⟨by decide, by decide⟩)) ev_int (by first | decide | omega)) (ev_intB (ev_gt (ev_var rfl) ev_int)) (by walk_at "smk"))) (ev_add (ev_mul (ev_sub (ev_mod (ev_int1 (ev_ixL (evl_v (by rfl)) (ev_add (ev_mul ev_int (ev_var rfl) (by walk_at "smk")) (ev_var rfl)) (by walk_at "item"))) ev_int (by first | decide | omega)) ev_int) (ev_var rfl) (by walk_at "smk")) (ev_mul (ev_mod (ev_int1 (ev_fdiv (ev_ixL (evl_v (by rfl)) (ev_add (ev_mul ev_int (ev_var rfl) (by walk_at "smk")) (ev_var rfl)) (by walk_at "item")) ev_int ⟨by decide, by decide⟩)) ev_int (by first | decide | omega)) (ev_intB (ev_gt (ev_var rfl) ev_int)) (by walk_at "smk"))))))) (lt_ok rfl) rfl)
      (sv_append rfl (ev_asrow (ev_tupleL (evl_f (evf_lcR3 (ev_add (ev_mul (ev_sub (ev_mod (ev_int1 (ev_ixL (evl_v (by rfl)) (ev_add (ev_mul ev_int (ev_var rfl) (by walk_at "smk")) (ev_var rfl)) (by walk_at "item"))) ev_int (by first | decide | omega)) ev_int) (ev_var rfl) (by walk_at "smk")) (ev_mul (ev_mod (ev_int1 (ev_fdiv (ev_ixL (evl_v (by rfl)) (ev_add (ev_mul ev_int (ev_var rfl) (by walk_at "smk")) (ev_var rfl)) (by walk_at "item")) ev_int ⟨by decide, by decide⟩)) ev_int (by first | decide | omega)) (ev_intB (ev_gt (ev_var rfl) ev_int)) (by walk_at "smk"))) (ev_add (ev_mul (ev_sub (ev_mod (ev_int1 (ev_ixL (evl_v (by rfl)) (ev_add (ev_mul ev_int (ev_var rfl) (by walk_at "smk")) (ev_var rfl)) (by walk_at "item"))) ev_int (by first | decide | omega)) ev_int) (ev_var rfl) (by walk_at "smk")) (ev_mul (ev_mod (ev_int1 (ev_fdiv (ev_ixL (evl_v (by rfl)) (ev_add (ev_mul ev_int (ev_var rfl) (by walk_at "smk")) (ev_var rfl)) (by walk_at "item")) ev_int ⟨by decide, by decide⟩)) ev_int (by first | decide | omega)) (ev_intB (ev_gt (ev_var rfl) ev_int)) (by walk_at "smk"))) (ev_add (ev_mul (ev_sub (ev_mod (ev_int1 (ev_ixL (evl_v (by rfl)) (ev_add (ev_mul ev_int (ev_var rfl) (by walk_at "smk")) (ev_var rfl)) (by walk_at "item"))) ev_int (by first | decide | omega)) ev_int) (ev_var rfl) (by walk_at "smk")) (ev_mul (ev_mod (ev_int1 (ev_fdiv (ev_ixL (evl_v (by rfl)) (ev_add (ev_mul ev_int (ev_var rfl) (by walk_at "smk")) (ev_var rfl)) (by walk_at "item")) ev_int ⟨by decide, by decide⟩)) ev_int (by first | decide | omega)) (ev_intB (ev_gt (ev_var rfl) ev_int)) (by walk_at "smk"))))))) (lt_ok rfl) rfl)
      (sv_append rfl (ev_asrow (ev_tupleL (evl_f (evf_lcR3 (ev_add (ev_mul (ev_sub (ev_mod (ev_int1 (ev_ixL (evl_v (by rfl)) (ev_add (ev_mul ev_int (ev_var rfl) (by walk_at "smk")) (ev_var rfl)) (by walk_at "item"))) ev_int (by first | decide | omega)) ev_int) (ev_var rfl) (by walk_at "smk")) (ev_mul (ev_mod (ev_int1 (ev_fdiv (ev_ixL (evl_v (by rfl)) (ev_add (ev_mul ev_int (ev_var rfl) (by walk_at "smk")) (ev_var rfl)) (by walk_at "item")) ev_int ⟨by decide, by decide⟩)) ev_int (by first | decide | omega)) (ev_intB (ev_gt (ev_var rfl) ev_int)) (by walk_at "smk"))) (ev_add (ev_mul (ev_sub (ev_mod (ev_int1 (ev_ixL (evl_v (by rfl)) (ev_add (ev_mul ev_int (ev_var rfl) (by walk_at "smk")) (ev_var rfl)) (by walk_at "item"))) ev_int (by first | decide | omega)) ev_int) (ev_var rfl) (by walk_at "smk")) (ev_mul (ev_mod (ev_int1 (ev_fdiv (ev_ixL (evl_v (by rfl)) (ev_add (ev_mul ev_int (ev_var rfl) (by walk_at "smk")) (ev_var rfl)) (by walk_at "item")) ev_int ⟨by decide, by decide⟩)) ev_int (by first | decide | omega)) (ev_intB (ev_gt (ev_var rfl) ev_int)) (by walk_at "smk"))) (ev_add (ev_mul (ev_sub (ev_mod (ev_int1 (ev_ixL (evl_v (by rfl)) (ev_add (ev_mul ev_int (ev_var rfl) (by walk_at "smk")) (ev_var rfl)) (by walk_at "item"))) ev_int (by first | decide | omega)) ev_int) (ev_var rfl) (by walk_at "smk")) (ev_mul (ev_mod (ev_int1 (ev_fdiv (ev_ixL (evl_v (by rfl)) (ev_add (ev_mul ev_int (ev_var rfl) (by walk_at "smk")) (ev_var rfl)) (by walk_at "item")) ev_int ⟨by decide, by decide⟩)) ev_int (by first | decide | omega)) (ev_intB (ev_gt (ev_var rfl) ev_int)) (by walk_at "smk"))))))) (lt_ok rfl) rfl) rfl)
    (sv_ret (ev_asmat (ev_tupleL (evl_v (by rfl)))) ?_)))
    rfl
local macro_rules | `(tactic| walk_at "R_law_table") => `(tactic| exact ⟨_, _, rfl, rfl, by rw [List.length_drop]; omega, by assumption⟩)
theorem sc_law_steps : FnScope ["draws", "many", "found", "k", "i", "j", "lines", "line"] ["draws", "many"] (defScope s_law_steps) := ⟨rfl, rfl, rfl, by decide +kernel, rfl, by decide +kernel, by decide +kernel⟩
def R_law_steps : List D → D → Prop := fun ds r => ∃ (ds0 : List Int) (many : Nat), ds = [.l (intsT ds0), .t (.int many)] ∧ r = .t (mat (stepsM ds0 many)) ∧ many ≤ ds0.length ∧ many ≤ 100
theorem ok_law_steps (T : Txt K mg) : FnOk P w K mg base CX0 2 T.a_law_steps T.fd_law_steps ["draws", "many"] (spD K R_law_steps) := by
  refine fn_d T.F_law_steps sc_law_steps (fun ds r h => ?_) (fun cdv A outer s H E hr => ?_)
  · obtain ⟨ds0, many, rfl, _⟩ := h
    rfl
  · have hu := hr.units
    have G_law_times : FnOk P w K mg base CX0 1 T.a_law_times T.fd_law_times ["first", "second"] (spD K R_law_times) := ok_law_times T
    refine ⟨_, (pss_cons (ps_set (i := 2) sc_law_steps.nd rfl (by first | exact Or.inl rfl | exact Or.inr rfl) (pe_tup (pa_cons (pe_tup (pa_cons pe_int (pa_cons pe_int (pa_cons pe_int pa_nil)))) (pa_cons (pe_tup (pa_cons pe_int (pa_cons pe_int (pa_cons pe_int pa_nil)))) (pa_cons (pe_tup (pa_cons pe_int (pa_cons pe_int (pa_cons pe_int pa_nil)))) pa_nil)))))
    (pss_cons (ps_for PassesOwn.never rfl (pi_range1 (by rfl) T.z_range (pa_cons (pv 1) pa_nil)) (pg_name (i := 3) sc_law_steps.nd rfl (by first | exact Or.inl rfl | exact Or.inr rfl)) (pss_cons (ps_asg (pk_ixL K (pe_lst (pa_cons (pe_tup (pa_cons pe_int (pa_cons pe_int pa_nil))) (pa_cons (pe_tup (pa_cons pe_int (pa_cons pe_int pa_nil))) (pa_cons (pe_tup (pa_cons pe_int (pa_cons pe_int pa_nil))) (pa_cons (pe_tup (pa_cons pe_int (pa_cons pe_int pa_nil))) (pa_cons (pe_tup (pa_cons pe_int (pa_cons pe_int pa_nil))) (pa_cons (pe_tup (pa_cons pe_int (pa_cons pe_int pa_nil))) pa_nil))))))) (pe_op op_mod (pe_callTy call_int1 (by rfl) T.z_int (by decide +kernel) (pa_cons (pk_ixL K (pv 0) (pv 3) (fun _ _ => rfl)) pa_nil)) pe_int) (fun _ _ => rfl)) (pgk_tup K rfl (pgs_cons (pg_name (i := 4) sc_law_steps.nd rfl (by first | exact Or.inl rfl | exact Or.inr rfl)) (pgs_cons (pg_name (i := 5) sc_law_steps.nd rfl (by first | exact Or.inl rfl | exact Or.inr rfl)) pgs_nil))))
    (pss_cons (ps_set (i := 6) sc_law_steps.nd rfl (by first | exact Or.inl rfl | exact Or.inr rfl) (pe_lst (pa_cons (pe_lst (pa_cons pe_int (pa_cons pe_int (pa_cons pe_int pa_nil)))) (pa_cons (pe_lst (pa_cons pe_int (pa_cons pe_int (pa_cons pe_int pa_nil)))) (pa_cons (pe_lst (pa_cons pe_int (pa_cons pe_int (pa_cons pe_int pa_nil)))) pa_nil)))))
    (pss_cons (ps_asg (pk_ixL K (pe_lst (pa_cons pe_int (pa_cons (pe_un un_neg pe_int) (pa_cons pe_int (pa_cons (pe_un un_neg pe_int) pa_nil))))) (pe_op op_mod (pe_callTy call_int1 (by rfl) T.z_int (by decide +kernel) (pa_cons (pe_op op_fdiv (pk_ixL K (pv 0) (pv 3) (fun _ _ => rfl)) pe_int) pa_nil)) pe_int) (fun _ _ => rfl)) (pg_sub (pk_ixL K (pv 6) (pv 4) (fun _ _ => rfl)) (pv 5) set_list))
    (pss_one (ps_set (i := 2) sc_law_steps.nd rfl (by first | exact Or.inl rfl | exact Or.inr rfl) (pe_call G_law_times (hr.mono (by decide)) (by rfl) T.g_law_times T.F_law_times.kp T.b_law_times .nil pass0 (pa_cons (pv 2) (pa_cons (pk_tupleOf K (by rfl) T.z_tuple (pe_lc (own := [("line", 7)]) (g := (gName 7)) rfl sc_law_steps.nd (pki_list K (pv 6)) (blkOk_by (own := [("line", 7)]) (N := ["draws", "many", "found", "k", "i", "j", "lines", "line"]) (sc := defScope s_law_steps) (by decide +kernel)) (fun _ _ _ _ _ => (pg_name (i := 7) sc_law_steps.nd rfl (by first | exact Or.inl rfl | exact Or.inr rfl))) (fun _ _ _ _ _ => pts_nil) (fun _ _ _ _ _ => (pk_tupleOf K (by rfl) T.z_tuple (pv 7))))) pa_nil)))))))))
    (pss_one (ps_ret (pv 2))))), fun ds r h => ?_⟩
    obtain ⟨ds0, many, rfl, rfl, hl, hm⟩ := h
    show Sv K W0 _ [D.l (intsT ds0), D.t (.int many), D.no, D.no, D.no, D.no, D.no, D.no] _
    refine sv_then _ (sv_set (ev_mat (ev_row ev_int ev_int ev_int) (ev_row ev_int ev_int ev_int) (ev_row ev_int ev_int ev_int)) rfl) ?_
    refine sv_seq (fun G => ∃ a b c d, G = [D.l (intsT ds0), D.t (.int many), D.t (mat (stepsM ds0 many)), a, b, c, d, D.no]) ?_ ?_
    · refine sv_range1 (n := (many : Int)) (fun k G => ∃ a b c d, G = [D.l (intsT ds0), D.t (.int many), D.t (mat (stepsM ds0 k)), a, b, c, d, D.no]) (ev_var rfl) (by omega) ⟨_, _, _, _, rfl⟩ ?_ ?_
      · rintro k G hk ⟨a, b, c, d, rfl⟩
        have hk' : k < many := hk
        have hsm := stepsM_sm ds0 k
        have hp := pij (dr ds0 k)
        have hsv : (stepM (dr ds0 k)).sm 2 := elem_sm (pV_sm _) (by decide)
        refine ⟨_, gd_name 3 _, ?_⟩
        refine sv_then _ (sv_asg (ev_ixL (evl_f (evf_lsts (evt_cons (ev_tups (evt_cons ev_int (evt_cons ev_int evt_nil)) (le_ok rfl)) (evt_cons (ev_tups (evt_cons ev_int (evt_cons ev_int evt_nil)) (le_ok rfl)) (evt_cons (ev_tups (evt_cons ev_int (evt_cons ev_int evt_nil)) (le_ok rfl)) (evt_cons (ev_tups (evt_cons ev_int (evt_cons ev_int evt_nil)) (le_ok rfl)) (evt_cons (ev_tups (evt_cons ev_int (evt_cons ev_int evt_nil)) (le_ok rfl)) (evt_cons (ev_tups (evt_cons ev_int (evt_cons ev_int evt_nil)) (le_ok rfl)) evt_nil)))))) (le_ok rfl)))
          (ev_mod (ev_int1 (ev_ixL (evl_v (by rfl)) (ev_var rfl) (by walk_at "item"))) ev_int (by decide)) (by walk_at "item")) (gd_tup rfl (gds_cons (gd_name _ _) (gds_cons (gd_name _ _) gds_nil))) rfl) ?_
        refine sv_lines (L := 6) (by show 6 < 8; decide) (ev_ixL (evl_f (evf_lsts (evt_cons ev_int (evt_cons (ev_neg ev_int) (evt_cons ev_int (evt_cons (ev_neg ev_int) evt_nil)))) (le_ok rfl))) (ev_mod (ev_int1 (ev_fdiv (ev_ixL (evl_v (by rfl)) (ev_var rfl) (by walk_at "item")) ev_int ⟨by decide, by decide⟩)) ev_int (by decide)) (by walk_at "item")) (ev_var rfl) (ev_var rfl) hp.2.2.2.1 hp.2.2.2.2 ?_
        refine sv_set (ev_call (eva_t (ev_var rfl) (eva_t (x := mat (stepM (dr ds0 k))) (ev_eq (ev_tupleL (evl_f (evf_lines rfl (by rw [setL_len]; decide) (lt_ok rfl)))) (elem_eq hp.1 hp.2.1)) eva_nil)) (by walk_at "R_law_times")) ⟨_, _, _, _, rfl⟩
      · rintro G ⟨a, b, c, d, rfl⟩
        exact ⟨_, _, _, _, rfl⟩
    · rintro G ⟨a, b, c, d, rfl⟩
      exact sv_ret (ev_var rfl) rfl
local macro_rules | `(tactic| walk_at "R_law_steps") => `(tactic| exact ⟨_, _, rfl, rfl, by rw [List.length_drop]; omega, by omega⟩)
theorem sc_law_refused : FnScope ["matrix", "e"] ["matrix"] (defScope s_law_refused) := ⟨rfl, rfl, rfl, by decide +kernel, rfl, by decide +kernel, by decide +kernel⟩
def R_law_refused : List D → D → Prop := fun ds r => ∃ (m : Mat) (n : Nat), ds = [.t (mat m)] ∧ r = .t (.bl (!uni m)) ∧ m.sm n ∧ n ≤ 20000
theorem ok_law_refused (T : Txt K mg) : FnOk P w K mg base CX0 5 T.a_law_refused T.fd_law_refused ["matrix"] (spD K R_law_refused) := by
  refine fn_d T.F_law_refused sc_law_refused (fun ds r h => ?_) (fun cdv A outer s H E hr => ?_)
  · obtain ⟨m, n, rfl, _⟩ := h
    rfl
  · have hu := hr.units
    have G_inverse_of : FnOk P w K mg base (L2.CX P w) 4 T.a_inverse_of T.fd_inverse_of ["matrix"] (spX K (R_inverse_of T.C_BadMatrix)) := ok_inverse_of T
    refine ⟨_, pss_cons (ps_try_as (i := 1) (tb := fun W => tDrop (tCallS (spX K (R_inverse_of T.C_BadMatrix)) (WE W) (tCons (tVar 0) tNil)))
        (ts := tCls (.ref T.C_BadMatrix) fun a => tRet (tAndV (tCB (rIsE K T.C_BadMatrix a) (tCons (tVar 1) (tCons (tC (.ref T.C_BadMatrix)) tNil))) (tAndV (tCB (rIsE K T.C_BadMatrix a) (tCons (tVar 1) (tCons (tC (.ty "ValueError")) tNil))) (tNotV (tCB (rIsE K T.C_BadMatrix a) (tCons (tVar 1) (tCons (tC (.ref T.C_BadForm)) tNil))))))) (Wout := fun _ _ _ _ => False)
        rfl rfl sc_law_refused.nd rfl rfl ⟨rfl, by decide, Or.inl T.g_ConeroomError⟩ takes0
        (fun W pn xe tk _ => pss_one (ps_expr (by exact (pe_callS G_inverse_of (hr.mono (by decide)) rfl T.g_inverse_of T.F_inverse_of.kp T.b_inverse_of (fun σ => passAt tk σ) (by exact (pa_cons (pv 0) pa_nil))))))
        (fun a oe cls d pn hz hf => pss_cls (fun e1 e2 => by
          subst e1
          subst e2
          exact pss_one (ps_ret (pe_and (pe_callB (call_isE T.E_BadMatrix hz hf) (by rfl) T.z_isinstance (by decide +kernel) (by exact (pa_cons (pv 1) (pa_cons (pe_glob (by rfl) T.g_BadMatrix rfl) pa_nil)))) (pe_and (pe_callB (call_isE T.E_BadMatrix hz hf) (by rfl) T.z_isinstance (by decide +kernel) (by exact (pa_cons (pv 1) (pa_cons (pe_bltn (by rfl) T.z_ValueError (by decide +kernel) rfl) pa_nil)))) (pe_one (pe_not (pe_callB (call_isE T.E_BadMatrix hz hf) (by rfl) T.z_isinstance (by decide +kernel) (by exact (pa_cons (pv 1) (pa_cons (pe_glob (by rfl) T.g_BadForm rfl) pa_nil))))))))))))
      (pss_one (ps_ret pe_bl)), fun ds r h => ?_⟩
    obtain ⟨m, n, rfl, rfl, hm, hn⟩ := h
    show Sv K W0 _ [D.t (mat m), D.no] _
    refine sv_seq (fun G => uni m = true) (sv_tryAs (c := .ref T.C_ConeroomError) (i := 1) (tb := fun W => tDrop (tCallS (spX K (R_inverse_of T.C_BadMatrix)) (WE W) (tCons (tVar 0) tNil))) (Wout := fun _ _ _ _ => False) (fun C G => C = T.C_BadMatrix ∧ G = [D.t (mat m), D.no] ∧ uni m = false) (fun W' => ?_) ?_ ?_) ?_
    · by_cases h : uni m = true
      · exact sv_drop (ev_callS (eva_t (ev_var rfl) eva_nil) (by exact ⟨_, _, rfl, (if_pos h).symm, hm, hn⟩)) h
      · exact sv_dropE (eve_callS (eva_t (ev_var rfl) eva_nil) (by exact ⟨_, _, rfl, (if_neg h).symm, hm, hn⟩)) ⟨rfl, rfl, by simpa using h⟩
    · rintro C G ⟨rfl, _⟩
      exact T.m_BadMatrix_ConeroomError
    · rintro C G a ⟨rfl, rfl, h⟩
      refine sv_cls (sv_ret (ev_and2 (ev_isE rfl (fun _ h => h) T.k_BadMatrix_BadMatrix) (ev_and2 (ev_isE rfl (fun _ h => h) T.k_BadMatrix_ValueError) (ev_notV (ev_isE rfl (fun _ h => h) T.k_BadMatrix_BadForm)))) ?_)
      rw [h]
      rfl
    · intro G h
      refine sv_ret ev_bl ?_
      rw [h]
      rfl
local macro_rules | `(tactic| walk_at "R_law_refused") => `(tactic| exact ⟨_, _, rfl, rfl, by walk_at "sm", by first | decide | omega⟩)
local macro_rules | `(tactic| walk_at "R_inverse_of") => `(tactic| exact ⟨_, _, rfl, (if_pos (by assumption)).symm, by walk_at "sm", by first | decide | omega⟩)
theorem swap_det (m : Mat) : det ⟨m.b, m.a, m.c⟩ = -det m := by
  simp only [det, dot, cross]; grind
theorem uni_of {m : Mat} (h : det m = 1 ∨ det m = -1) : uni m = true := by
  unfold uni
  rcases h with e | e <;> rw [e] <;> decide
theorem uni_iff (m : Mat) : uni m = decide (det m ∈ ([1, -1] : List Int)) := by
  by_cases h : det m = 1 ∨ det m = -1
  · rw [uni_of h]
    symm
    exact decide_eq_true (by simpa using h)
  · have e : uni m = false := by
      cases q : uni m with
      | false => rfl
      | true => exact absurd (uni_det q) h
    rw [e]
    symm
    exact decide_eq_false (by simpa using h)
theorem inv_sm {m : Mat} {n : Nat} (h : m.sm n) : (inv m).sm (5 * n + 6) := (sm_mul (sm_adj h) (sgn_sm h)).mono (by omega)
def spLaw (K : PySem.W.Frag) : Sp := fun vs H Q _ => ∃ (a : Addr) (ns : List Int), vs = [.ref a] ∧ SqL K H a (ns.map V.int) ∧ ns.length ≤ 63 ∧ ∀ H', Q (.bl true) H'
theorem sc_law : FnScope ["script", "draws", "far", "first", "second", "row", "matrix", "back", "one"] ["script"] (defScope s_law) := ⟨rfl, rfl, rfl, by decide +kernel, rfl, by decide +kernel, by decide +kernel⟩
def R_law : List D → D → Prop := fun ds r => ∃ (ns : List Int), ds = [.l (intsT ns)] ∧ r = .t (.bl true)
theorem law_pre {vs : List V} {H : Hp} {Q : VK} {E : XK} (h : spLaw K vs H Q E) : spD K R_law vs H Q E := by
  obtain ⟨a, ns, rfl, hS, _, q⟩ := h
  refine ⟨_, _, ⟨ns, rfl, rfl⟩, .cons ⟨a, _, rfl, hS, Rps.ints ns⟩ .nil, fun v H' _ r => ?_⟩
  have r' : Rp K H' v (.bl true) := r
  cases r'
  exact q H'
theorem ok_law {fa : Addr} {fd : FuncData} (F : Fun K "law" "law" s_law fa fd) (T : Txt K mg) : FnOk P w K mg base CX0 6 fa fd ["script"] (spLaw K) := by
  refine FnOk.imp (sp := spD K R_law) ?_ (fun _ _ _ _ h => law_pre h)
  refine fn_d F sc_law (fun ds r h => ?_) (fun cdv A outer s H E hr => ?_)
  · obtain ⟨ns, rfl, _⟩ := h
    rfl
  · have hu := hr.units
    have G_inverse_of : FnOk P w K mg base (L2.CX P w) 4 T.a_inverse_of T.fd_inverse_of ["matrix"] (spX K (R_inverse_of T.C_BadMatrix)) := ok_inverse_of T
    have G_law_draws : FnOk P w K mg base CX0 1 T.a_law_draws T.fd_law_draws ["script", "many"] (spD K R_law_draws) := ok_law_draws T
    have G_law_row : FnOk P w K mg base CX0 1 T.a_law_row T.fd_law_row ["draws", "most"] (spD K R_law_row) := ok_law_row T
    have G_law_table : FnOk P w K mg base CX0 1 T.a_law_table T.fd_law_table ["draws", "far"] (spD K R_law_table) := ok_law_table T
    have G_matrix_product : FnOk P w K mg base CX0 3 T.a_matrix_product T.fd_matrix_product ["first", "second"] (spD K R_matrix_product) := ok_matrix_product T
    have G_law_times : FnOk P w K mg base CX0 1 T.a_law_times T.fd_law_times ["first", "second"] (spD K R_law_times) := ok_law_times T
    have G_image : FnOk P w K mg base CX0 2 T.a_image T.fd_image ["matrix", "row"] (spD K R_image) := ok_image T
    have G_law_image : FnOk P w K mg base CX0 1 T.a_law_image T.fd_law_image ["matrix", "row"] (spD K R_law_image) := ok_law_image T
    have G_determinant_of : FnOk P w K mg base CX0 2 T.a_determinant_of T.fd_determinant_of ["matrix"] (spD K R_determinant_of) := ok_determinant_of T
    have G_law_det : FnOk P w K mg base CX0 1 T.a_law_det T.fd_law_det ["m"] (spD K R_law_det) := ok_law_det T
    have G_law_refused : FnOk P w K mg base CX0 5 T.a_law_refused T.fd_law_refused ["matrix"] (spD K R_law_refused) := ok_law_refused T
    have G_law_steps : FnOk P w K mg base CX0 2 T.a_law_steps T.fd_law_steps ["draws", "many"] (spD K R_law_steps) := ok_law_steps T
    refine ⟨_, (pss_cons (ps_set (i := 1) sc_law.nd rfl (by first | exact Or.inl rfl | exact Or.inr rfl) (pe_call G_law_draws (hr.mono (by decide)) (by rfl) T.g_law_draws T.F_law_draws.kp T.b_law_draws .nil pass0 (pa_cons (pv 0) (pa_cons pe_int pa_nil))))
    (pss_cons (ps_set (i := 2) sc_law.nd rfl (by first | exact Or.inl rfl | exact Or.inr rfl) (pk_ixL K (pe_lst (pa_cons pe_int (pa_cons pe_int (pa_cons (pe_op op_pow pe_int pe_int) pa_nil)))) (pe_op op_mod (pe_callTy call_int1 (by rfl) T.z_int (by decide +kernel) (pa_cons (pk_ixL K (pv 1) pe_int (fun _ _ => rfl)) pa_nil)) pe_int) (fun _ _ => rfl)))
    (pss_cons (ps_par3 (i := 3) (j := 4) (l := 5) (by rfl) sc_law.nd rfl rfl rfl (by decide) (by decide) (by decide) rfl rfl rfl (pa_cons (pe_call G_law_table (hr.mono (by decide)) (by rfl) T.g_law_table T.F_law_table.kp T.b_law_table .nil pass0 (pa_cons (pk_slL K (pv 1) (po_some pe_int) po_none) (pa_cons (pv 2) pa_nil))) (pa_cons (pe_call G_law_table (hr.mono (by decide)) (by rfl) T.g_law_table T.F_law_table.kp T.b_law_table .nil pass0 (pa_cons (pk_slL K (pv 1) (po_some pe_int) po_none) (pa_cons (pv 2) pa_nil))) (pa_cons (pe_call G_law_row (hr.mono (by decide)) (by rfl) T.g_law_row T.F_law_row.kp T.b_law_row .nil pass0 (pa_cons (pk_slL K (pv 1) (po_some pe_int) po_none) (pa_cons pe_int pa_nil))) pa_nil))) (by rfl))
    (pss_cons (ps_if (PW.pt (pw_or (pt_cmpR (opk_neD K hu) (pe_call G_image (hr.mono (by decide)) (by rfl) T.g_image T.F_image.kp T.b_image .nil pass0 (pa_cons (pv 3) (pa_cons (pv 5) pa_nil))) (pe_call G_law_image (hr.mono (by decide)) (by rfl) T.g_law_image T.F_law_image.kp T.b_law_image .nil pass0 (pa_cons (pv 3) (pa_cons (pv 5) pa_nil))) (nomark _)) (pw_or1 (pt_cmpR (opk_neD K hu) (pe_call G_matrix_product (hr.mono (by decide)) (by rfl) T.g_matrix_product T.F_matrix_product.kp T.b_matrix_product .nil pass0 (pa_cons (pv 3) (pa_cons (pv 4) pa_nil))) (pe_call G_law_times (hr.mono (by decide)) (by rfl) T.g_law_times T.F_law_times.kp T.b_law_times .nil pass0 (pa_cons (pv 3) (pa_cons (pv 4) pa_nil))) (nomark _))))) (pss_one (ps_ret pe_bl)) pss_nil)
    (pss_cons (ps_if (PW.pt (pw_or (pt_cmpR (opk_neD K hu) (pe_call G_image (hr.mono (by decide)) (by rfl) T.g_image T.F_image.kp T.b_image .nil pass0 (pa_cons (pe_call G_matrix_product (hr.mono (by decide)) (by rfl) T.g_matrix_product T.F_matrix_product.kp T.b_matrix_product .nil pass0 (pa_cons (pv 3) (pa_cons (pv 4) pa_nil))) (pa_cons (pv 5) pa_nil))) (pe_call G_image (hr.mono (by decide)) (by rfl) T.g_image T.F_image.kp T.b_image .nil pass0 (pa_cons (pv 3) (pa_cons (pe_call G_image (hr.mono (by decide)) (by rfl) T.g_image T.F_image.kp T.b_image .nil pass0 (pa_cons (pv 4) (pa_cons (pv 5) pa_nil))) pa_nil))) (nomark _)) (pw_or1 (pt_not (pt_val (pe_callB (ck_isi K) (by rfl) T.z_isinstance (by decide +kernel) (pa_cons (pe_call G_image (hr.mono (by decide)) (by rfl) T.g_image T.F_image.kp T.b_image .nil pass0 (pa_cons (pv 3) (pa_cons (pv 5) pa_nil))) (pa_cons (pe_bltn (v := .ty "tuple") (u := .type "tuple") (by rfl) T.z_tuple (by decide +kernel) rfl) pa_nil)))))))) (pss_one (ps_ret pe_bl)) pss_nil)
    (pss_cons (ps_if (PW.pt (pw_or (pt_cmpR op_ne (pe_call G_determinant_of (hr.mono (by decide)) (by rfl) T.g_determinant_of T.F_determinant_of.kp T.b_determinant_of .nil pass0 (pa_cons (pv 3) pa_nil)) (pe_call G_law_det (hr.mono (by decide)) (by rfl) T.g_law_det T.F_law_det.kp T.b_law_det .nil pass0 (pa_cons (pv 3) pa_nil)) (nomark _)) (pw_or1 (pt_cmpR op_ne (pe_call G_determinant_of (hr.mono (by decide)) (by rfl) T.g_determinant_of T.F_determinant_of.kp T.b_determinant_of .nil pass0 (pa_cons (pe_call G_matrix_product (hr.mono (by decide)) (by rfl) T.g_matrix_product T.F_matrix_product.kp T.b_matrix_product .nil pass0 (pa_cons (pv 3) (pa_cons (pv 4) pa_nil))) pa_nil)) (pe_op op_mulW (pe_call G_law_det (hr.mono (by decide)) (by rfl) T.g_law_det T.F_law_det.kp T.b_law_det .nil pass0 (pa_cons (pv 3) pa_nil)) (pe_call G_law_det (hr.mono (by decide)) (by rfl) T.g_law_det T.F_law_det.kp T.b_law_det .nil pass0 (pa_cons (pv 4) pa_nil))) (nomark _))))) (pss_one (ps_ret pe_bl)) pss_nil)
    (pss_cons (ps_if (PW.pt (pw_and (pt_cmpR (opk_notIn K) (pe_call G_law_det (hr.mono (by decide)) (by rfl) T.g_law_det T.F_law_det.kp T.b_law_det .nil pass0 (pa_cons (pv 3) pa_nil)) (pe_tup (pa_cons pe_int (pa_cons (pe_un un_neg pe_int) pa_nil))) rfl) (pw_and1 (pt_not (pt_val (pe_call G_law_refused (hr.mono (by decide)) (by rfl) T.g_law_refused T.F_law_refused.kp T.b_law_refused .nil pass0 (pa_cons (pv 3) pa_nil))))))) (pss_one (ps_ret pe_bl)) pss_nil)
    (pss_cons (ps_set (i := 6) sc_law.nd rfl (by first | exact Or.inl rfl | exact Or.inr rfl) (pe_call G_law_steps (hr.mono (by decide)) (by rfl) T.g_law_steps T.F_law_steps.kp T.b_law_steps .nil pass0 (pa_cons (pk_slL K (pv 1) (po_some pe_int) po_none) (pa_cons (pe_op op_mod (pe_callTy call_int1 (by rfl) T.z_int (by decide +kernel) (pa_cons (pk_ixL K (pv 1) pe_int (fun _ _ => rfl)) pa_nil)) pe_int) pa_nil))))
    (pss_cons (ps_if (pt_cmpR op_eq (pe_op op_mod (pe_callTy call_int1 (by rfl) T.z_int (by decide +kernel) (pa_cons (pk_ixL K (pv 1) pe_int (fun _ _ => rfl)) pa_nil)) pe_int) pe_int (nomark _)) (pss_one (ps_set (i := 6) sc_law.nd rfl (by first | exact Or.inl rfl | exact Or.inr rfl) (pe_tup (pa_cons (pk_ixT K (pv 6) pe_int (fun _ _ => rfl)) (pa_cons (pk_ixT K (pv 6) pe_int (fun _ _ => rfl)) (pa_cons (pk_ixT K (pv 6) pe_int (fun _ _ => rfl)) pa_nil)))))) pss_nil)
    (pss_cons (ps_set (i := 7) sc_law.nd rfl (by first | exact Or.inl rfl | exact Or.inr rfl) (pe_call G_inverse_of (hr.mono (by decide)) (by rfl) T.g_inverse_of T.F_inverse_of.kp T.b_inverse_of .nil passL (pa_cons (pv 6) pa_nil)))
    (pss_cons (ps_set (i := 8) sc_law.nd rfl (by first | exact Or.inl rfl | exact Or.inr rfl) (pe_tup (pa_cons (pe_tup (pa_cons pe_int (pa_cons pe_int (pa_cons pe_int pa_nil)))) (pa_cons (pe_tup (pa_cons pe_int (pa_cons pe_int (pa_cons pe_int pa_nil)))) (pa_cons (pe_tup (pa_cons pe_int (pa_cons pe_int (pa_cons pe_int pa_nil)))) pa_nil)))))
    (pss_one (ps_ret (pe_and (pe_cmpR (opk_eqD K hu) (pe_call G_law_times (hr.mono (by decide)) (by rfl) T.g_law_times T.F_law_times.kp T.b_law_times .nil pass0 (pa_cons (pv 6) (pa_cons (pv 7) pa_nil))) (pv 8) (nomark _)) (pe_and (pe_cmpR (opk_eqD K hu) (pe_call G_law_times (hr.mono (by decide)) (by rfl) T.g_law_times T.F_law_times.kp T.b_law_times .nil pass0 (pa_cons (pv 7) (pa_cons (pv 6) pa_nil))) (pv 8) (nomark _)) (pe_one (pe_cmpR (opk_eqD K hu) (pe_call G_image (hr.mono (by decide)) (by rfl) T.g_image T.F_image.kp T.b_image .nil pass0 (pa_cons (pv 7) (pa_cons (pe_call G_image (hr.mono (by decide)) (by rfl) T.g_image T.F_image.kp T.b_image .nil pass0 (pa_cons (pv 6) (pa_cons (pv 5) pa_nil))) pa_nil))) (pv 5) (nomark _)))))))))))))))))), fun ds r h => ?_⟩
    obtain ⟨ns, rfl, rfl⟩ := h
    have hl := drawsM_len ns 40
    show Sv K W0 _ [D.l (intsT ns), D.no, D.no, D.no, D.no, D.no, D.no, D.no, D.no] _
    refine sv_then _ (sv_setF (evf_call (eva_l (evl_v (by rfl)) (eva_t ev_int eva_nil)) (by walk_at "R_law_draws")) rfl) ?_
    show Sv K W0 _ [D.l (intsT ns), D.own (intsT (drawsM ns 40)), D.no, D.no, D.no, D.no, D.no, D.no, D.no] _
    generalize drawsM ns 40 = ds at *
    refine sv_then _ (sv_set (ev_ixL (evl_f (evf_lsts (evt_cons ev_int (evt_cons ev_int (evt_cons (ev_pow ev_int ev_int ⟨by decide, by decide, by decide⟩) evt_nil))) (le_ok rfl))) (ev_mod (ev_int1 (ev_ixL (evl_v (by rfl)) ev_int (by walk_at "item"))) ev_int (by first | decide | omega)) (by walk_at "item")) rfl) ?_
    show Sv K W0 _ [D.l (intsT ns), D.own (intsT ds), D.t (.int (farM (dr ds 0))), D.no, D.no, D.no, D.no, D.no, D.no] _
    have hfar := farM_sm (dr ds 0)
    generalize farM (dr ds 0) = far at *
    refine sv_then _ (sv_par3 (ev_call (eva_l (evl_f (evf_eq (evf_slice (evl_v (by rfl)) (evo_some ev_int) evo_none) (cut_from _ 1))) (eva_t (ev_var rfl) eva_nil)) (by walk_at "R_law_table")) (ev_call (eva_l (evl_f (evf_eq (evf_slice (evl_v (by rfl)) (evo_some ev_int) evo_none) (cut_from _ 10))) (eva_t (ev_var rfl) eva_nil)) (by walk_at "R_law_table")) (ev_call (eva_l (evl_f (evf_eq (evf_slice (evl_v (by rfl)) (evo_some ev_int) evo_none) (cut_from _ 19))) (eva_t ev_int eva_nil)) (by walk_at "R_law_row")) rfl) ?_
    show Sv K W0 _ [D.l (intsT ns), D.own (intsT ds), D.t (.int far), D.t (mat (tableM (ds.drop 1) far)), D.t (mat (tableM (ds.drop 10) far)), D.t (row (rowM (ds.drop 19) 50)), D.no, D.no, D.no] _
    have h1 := tableM_sm (ds.drop 1) hfar
    have h2 := tableM_sm (ds.drop 10) hfar
    have h3 := rowM_sm (ds.drop 19) (most := 50) (by decide) (by decide)
    generalize tableM (ds.drop 1) far = f1 at *
    generalize tableM (ds.drop 10) far = f2 at *
    generalize rowM (ds.drop 19) 50 = u at *
    refine sv_then _ (sv_if (evb_or2 (evb_test (ev_neR (ev_call (eva_t (ev_var rfl) (eva_t (ev_var rfl) eva_nil)) (by walk_at "R_image")) (ev_call (eva_t (ev_var rfl) (eva_t (ev_var rfl) eva_nil)) (by walk_at "R_law_image")))) (evb_test (ev_neM (ev_call (eva_t (ev_var rfl) (eva_t (ev_var rfl) eva_nil)) (by walk_at "R_matrix_product")) (ev_call (eva_t (ev_var rfl) (eva_t (ev_var rfl) eva_nil)) (by walk_at "R_law_times"))))) (fun h => (sv_ret ev_bl ?_)) (fun h => (sv_next rfl))) ?_
    · simp at h
    refine sv_then _ (sv_if (evb_or2 (evb_test (ev_neR (ev_call (eva_t (ev_call (eva_t (ev_var rfl) (eva_t (ev_var rfl) eva_nil)) (by walk_at "R_matrix_product")) (eva_t (ev_var rfl) eva_nil)) (by walk_at "R_image")) (ev_call (eva_t (ev_var rfl) (eva_t (ev_call (eva_t (ev_var rfl) (eva_t (ev_var rfl) eva_nil)) (by walk_at "R_image")) eva_nil)) (by walk_at "R_image")))) (evb_not (evb_val (ev_isT (b := true) (ev_call (eva_t (ev_var rfl) (eva_t (ev_var rfl) eva_nil)) (by walk_at "R_image")) rfl (by decide +kernel))))) (fun h => (sv_ret ev_bl ?_)) (fun h => (sv_next rfl))) ?_
    · simp [image_mul] at h
    refine sv_then _ (sv_if (evb_or2 (evb_test (ev_neI (ev_call (eva_t (ev_var rfl) eva_nil) (by walk_at "R_determinant_of")) (ev_call (eva_t (ev_var rfl) eva_nil) (by walk_at "R_law_det")))) (evb_test (ev_neI (ev_call (eva_t (ev_call (eva_t (ev_var rfl) (eva_t (ev_var rfl) eva_nil)) (by walk_at "R_matrix_product")) eva_nil) (by walk_at "R_determinant_of")) (ev_mul (ev_call (eva_t (ev_var rfl) eva_nil) (by walk_at "R_law_det")) (ev_call (eva_t (ev_var rfl) eva_nil) (by walk_at "R_law_det")) (by walk_at "smk"))))) (fun h => (sv_ret ev_bl ?_)) (fun h => (sv_next rfl))) ?_
    · simp [det_mul] at h
    refine sv_then _ (sv_if (evb_and2 (evb_test (ev_notInT [1, -1] (ev_call (eva_t (ev_var rfl) eva_nil) (by walk_at "R_law_det")) (ev_tups (evt_cons ev_int (evt_cons (ev_neg ev_int) evt_nil)) (le_ok rfl)))) (evb_not (evb_val (ev_call (eva_t (ev_var rfl) eva_nil) (by walk_at "R_law_refused"))))) (fun h => (sv_ret ev_bl ?_)) (fun h => (sv_next rfl))) ?_
    · rw [uni_iff] at h
      simp at h
      exfalso
      omega
    refine sv_then _ (sv_set (x := mat (stepsM (ds.drop 24) (dr ds 22 % 9).toNat)) (ev_call (eva_l (evl_f (evf_eq (evf_slice (evl_v (by rfl)) (evo_some ev_int) evo_none) (cut_from _ 24))) (eva_t (ev_mod (ev_int1 (ev_ixL (evl_v (by rfl)) ev_int (by walk_at "item"))) ev_int (by first | decide | omega)) eva_nil)) (by exact ⟨_, (dr ds 22 % 9).toNat, (by rw [Int.toNat_of_nonneg (by omega)]; rfl), rfl, by rw [List.length_drop]; omega, by omega⟩)) rfl) ?_
    have hd := stepsM_det (ds.drop 24) (dr ds 22 % 9).toNat
    have hs := (stepsM_sm (ds.drop 24) (dr ds 22 % 9).toNat).mono (show _ ≤ 40 by omega)
    show Sv K W0 _ [D.l (intsT ns), D.own (intsT ds), D.t (.int far), D.t (mat f1), D.t (mat f2), D.t (row u), D.t (mat (stepsM (ds.drop 24) (dr ds 22 % 9).toNat)), D.no, D.no] _
    generalize stepsM (ds.drop 24) (dr ds 22 % 9).toNat = M at *
    refine sv_seq (fun G => ∃ M : Mat, G = [D.l (intsT ns), D.own (intsT ds), D.t (.int far), D.t (mat f1), D.t (mat f2), D.t (row u), D.t (mat M), D.no, D.no] ∧ uni M = true ∧ M.sm 40) (sv_if (evb_test (ev_eqI (ev_mod (ev_int1 (ev_ixL (evl_v (by rfl)) ev_int (by walk_at "item"))) ev_int (by first | decide | omega)) ev_int)) (fun h => (sv_set (ev_mat (ev_ixT (ev_var rfl) ev_int (by rfl)) (ev_ixT (ev_var rfl) ev_int (by rfl)) (ev_ixT (ev_var rfl) ev_int (by rfl))) ?_)) (fun h => (sv_next ?_))) ?_
    · exact ⟨⟨M.b, M.a, M.c⟩, rfl, uni_of (.inr (by rw [swap_det, hd])), ⟨hs.b, hs.a, hs.c⟩⟩
    · exact ⟨M, rfl, uni_of (.inl hd), hs⟩
    rintro G ⟨M, rfl, hun, hM⟩
    have hi := inv_sm hM
    refine sv_then _ (sv_set (ev_callX (eva_t (ev_var rfl) eva_nil) (by walk_at "R_inverse_of")) rfl) (sv_then _ (sv_set (ev_mat (ev_row ev_int ev_int ev_int) (ev_row ev_int ev_int ev_int) (ev_row ev_int ev_int ev_int)) rfl) (sv_ret (ev_and2 (ev_eqM (ev_call (eva_t (ev_var rfl) (eva_t (ev_var rfl) eva_nil)) (by walk_at "R_law_times")) (ev_var rfl)) (ev_and2 (ev_eqM (ev_call (eva_t (ev_var rfl) (eva_t (ev_var rfl) eva_nil)) (by walk_at "R_law_times")) (ev_var rfl)) (ev_eqR (ev_call (eva_t (ev_var rfl) (eva_t (ev_call (eva_t (ev_var rfl) (eva_t (ev_var rfl) eva_nil)) (by walk_at "R_image")) eva_nil)) (by walk_at "R_image")) (ev_var rfl)))) ?_))
    show D.t (.bl _) = D.t (.bl true)
    refine congrArg (fun z => D.t (.bl z)) ?_
    rw [mul_inv hun, inv_mul hun, ← image_mul, inv_mul hun, image_one]
    show (decide (one = one) && (decide (one = one) && decide (u = u))) = true
    simp
end
theorem all_mk {l : PySem.W.OpenLaw} {w : World} {K : PySem.W.Frag} {h : Heap} {mg : Str → Option Value} {fa : Addr} (X : K.In h) (G : h.Ns mainGlobals mg) (hfa : mg "law" = some (.ref fa))
    {f_dot : Addr} {od_dot an_dot : Option Addr} {sl_dot : Array (Option Value)} {oc_dot kV_dot dc_dot pm_dot cd_dot ct_dot : Value}
    (a_dot : PySem.W.nsIn K mainGlobals "dot" = some (some (.ref f_dot)))
    (l_dot : K.lookup f_dot = some ⟨oc_dot, od_dot, .func (PySem.W.fnOf "dot" "dot" (defArgs s_dot) (defBody s_dot) (defScope s_dot) .none kV_dot dc_dot pm_dot an_dot cd_dot ct_dot), sl_dot⟩)
    (c_dot : PySem.W.codeIn K cd_dot "dot" = true) (k_dot : PySem.W.keepIn K (.ref f_dot) = true)
    {f_cross : Addr} {od_cross an_cross : Option Addr} {sl_cross : Array (Option Value)} {oc_cross kV_cross dc_cross pm_cross cd_cross ct_cross : Value}
    (a_cross : PySem.W.nsIn K mainGlobals "cross" = some (some (.ref f_cross)))
    (l_cross : K.lookup f_cross = some ⟨oc_cross, od_cross, .func (PySem.W.fnOf "cross" "cross" (defArgs s_cross) (defBody s_cross) (defScope s_cross) .none kV_cross dc_cross pm_cross an_cross cd_cross ct_cross), sl_cross⟩)
    (c_cross : PySem.W.codeIn K cd_cross "cross" = true) (k_cross : PySem.W.keepIn K (.ref f_cross) = true)
    {f_transposed : Addr} {od_transposed an_transposed : Option Addr} {sl_transposed : Array (Option Value)} {oc_transposed kV_transposed dc_transposed pm_transposed cd_transposed ct_transposed : Value}
    (a_transposed : PySem.W.nsIn K mainGlobals "transposed" = some (some (.ref f_transposed)))
    (l_transposed : K.lookup f_transposed = some ⟨oc_transposed, od_transposed, .func (PySem.W.fnOf "transposed" "transposed" (defArgs s_transposed) (defBody s_transposed) (defScope s_transposed) .none kV_transposed dc_transposed pm_transposed an_transposed cd_transposed ct_transposed), sl_transposed⟩)
    (c_transposed : PySem.W.codeIn K cd_transposed "transposed" = true) (k_transposed : PySem.W.keepIn K (.ref f_transposed) = true)
    {f_image : Addr} {od_image an_image : Option Addr} {sl_image : Array (Option Value)} {oc_image kV_image dc_image pm_image cd_image ct_image : Value}
    (a_image : PySem.W.nsIn K mainGlobals "image" = some (some (.ref f_image)))
    (l_image : K.lookup f_image = some ⟨oc_image, od_image, .func (PySem.W.fnOf "image" "image" (defArgs s_image) (defBody s_image) (defScope s_image) .none kV_image dc_image pm_image an_image cd_image ct_image), sl_image⟩)
    (c_image : PySem.W.codeIn K cd_image "image" = true) (k_image : PySem.W.keepIn K (.ref f_image) = true)
    {f_matrix_product : Addr} {od_matrix_product an_matrix_product : Option Addr} {sl_matrix_product : Array (Option Value)} {oc_matrix_product kV_matrix_product dc_matrix_product pm_matrix_product cd_matrix_product ct_matrix_product : Value}
    (a_matrix_product : PySem.W.nsIn K mainGlobals "matrix_product" = some (some (.ref f_matrix_product)))
    (l_matrix_product : K.lookup f_matrix_product = some ⟨oc_matrix_product, od_matrix_product, .func (PySem.W.fnOf "matrix_product" "matrix_product" (defArgs s_matrix_product) (defBody s_matrix_product) (defScope s_matrix_product) .none kV_matrix_product dc_matrix_product pm_matrix_product an_matrix_product cd_matrix_product ct_matrix_product), sl_matrix_product⟩)
    (c_matrix_product : PySem.W.codeIn K cd_matrix_product "matrix_product" = true) (k_matrix_product : PySem.W.keepIn K (.ref f_matrix_product) = true)
    {f_determinant_of : Addr} {od_determinant_of an_determinant_of : Option Addr} {sl_determinant_of : Array (Option Value)} {oc_determinant_of kV_determinant_of dc_determinant_of pm_determinant_of cd_determinant_of ct_determinant_of : Value}
    (a_determinant_of : PySem.W.nsIn K mainGlobals "determinant_of" = some (some (.ref f_determinant_of)))
    (l_determinant_of : K.lookup f_determinant_of = some ⟨oc_determinant_of, od_determinant_of, .func (PySem.W.fnOf "determinant_of" "determinant_of" (defArgs s_determinant_of) (defBody s_determinant_of) (defScope s_determinant_of) .none kV_determinant_of dc_determinant_of pm_determinant_of an_determinant_of cd_determinant_of ct_determinant_of), sl_determinant_of⟩)
    (c_determinant_of : PySem.W.codeIn K cd_determinant_of "determinant_of" = true) (k_determinant_of : PySem.W.keepIn K (.ref f_determinant_of) = true)
    {f_adjugate_of : Addr} {od_adjugate_of an_adjugate_of : Option Addr} {sl_adjugate_of : Array (Option Value)} {oc_adjugate_of kV_adjugate_of dc_adjugate_of pm_adjugate_of cd_adjugate_of ct_adjugate_of : Value}
    (a_adjugate_of : PySem.W.nsIn K mainGlobals "adjugate_of" = some (some (.ref f_adjugate_of)))
    (l_adjugate_of : K.lookup f_adjugate_of = some ⟨oc_adjugate_of, od_adjugate_of, .func (PySem.W.fnOf "adjugate_of" "adjugate_of" (defArgs s_adjugate_of) (defBody s_adjugate_of) (defScope s_adjugate_of) .none kV_adjugate_of dc_adjugate_of pm_adjugate_of an_adjugate_of cd_adjugate_of ct_adjugate_of), sl_adjugate_of⟩)
    (c_adjugate_of : PySem.W.codeIn K cd_adjugate_of "adjugate_of" = true) (k_adjugate_of : PySem.W.keepIn K (.ref f_adjugate_of) = true)
    {f_has_inverse : Addr} {od_has_inverse an_has_inverse : Option Addr} {sl_has_inverse : Array (Option Value)} {oc_has_inverse kV_has_inverse dc_has_inverse pm_has_inverse cd_has_inverse ct_has_inverse : Value}
    (a_has_inverse : PySem.W.nsIn K mainGlobals "has_inverse" = some (some (.ref f_has_inverse)))
    (l_has_inverse : K.lookup f_has_inverse = some ⟨oc_has_inverse, od_has_inverse, .func (PySem.W.fnOf "has_inverse" "has_inverse" (defArgs s_has_inverse) (defBody s_has_inverse) (defScope s_has_inverse) .none kV_has_inverse dc_has_inverse pm_has_inverse an_has_inverse cd_has_inverse ct_has_inverse), sl_has_inverse⟩)
    (c_has_inverse : PySem.W.codeIn K cd_has_inverse "has_inverse" = true) (k_has_inverse : PySem.W.keepIn K (.ref f_has_inverse) = true)
    {f_inverse_of : Addr} {od_inverse_of an_inverse_of : Option Addr} {sl_inverse_of : Array (Option Value)} {oc_inverse_of kV_inverse_of dc_inverse_of pm_inverse_of cd_inverse_of ct_inverse_of : Value}
    (a_inverse_of : PySem.W.nsIn K mainGlobals "inverse_of" = some (some (.ref f_inverse_of)))
    (l_inverse_of : K.lookup f_inverse_of = some ⟨oc_inverse_of, od_inverse_of, .func (PySem.W.fnOf "inverse_of" "inverse_of" (defArgs s_inverse_of) (defBody s_inverse_of) (defScope s_inverse_of) .none kV_inverse_of dc_inverse_of pm_inverse_of an_inverse_of cd_inverse_of ct_inverse_of), sl_inverse_of⟩)
    (c_inverse_of : PySem.W.codeIn K cd_inverse_of "inverse_of" = true) (k_inverse_of : PySem.W.keepIn K (.ref f_inverse_of) = true)
    {f_law_draws : Addr} {od_law_draws an_law_draws : Option Addr} {sl_law_draws : Array (Option Value)} {oc_law_draws kV_law_draws dc_law_draws pm_law_draws cd_law_draws ct_law_draws : Value}
    (a_law_draws : PySem.W.nsIn K mainGlobals "_law_draws" = some (some (.ref f_law_draws)))
    (l_law_draws : K.lookup f_law_draws = some ⟨oc_law_draws, od_law_draws, .func (PySem.W.fnOf "_law_draws" "_law_draws" (defArgs s_law_draws) (defBody s_law_draws) (defScope s_law_draws) .none kV_law_draws dc_law_draws pm_law_draws an_law_draws cd_law_draws ct_law_draws), sl_law_draws⟩)
    (c_law_draws : PySem.W.codeIn K cd_law_draws "_law_draws" = true) (k_law_draws : PySem.W.keepIn K (.ref f_law_draws) = true)
    {f_law_image : Addr} {od_law_image an_law_image : Option Addr} {sl_law_image : Array (Option Value)} {oc_law_image kV_law_image dc_law_image pm_law_image cd_law_image ct_law_image : Value}
    (a_law_image : PySem.W.nsIn K mainGlobals "_law_image" = some (some (.ref f_law_image)))
    (l_law_image : K.lookup f_law_image = some ⟨oc_law_image, od_law_image, .func (PySem.W.fnOf "_law_image" "_law_image" (defArgs s_law_image) (defBody s_law_image) (defScope s_law_image) .none kV_law_image dc_law_image pm_law_image an_law_image cd_law_image ct_law_image), sl_law_image⟩)
    (c_law_image : PySem.W.codeIn K cd_law_image "_law_image" = true) (k_law_image : PySem.W.keepIn K (.ref f_law_image) = true)
    {f_law_times : Addr} {od_law_times an_law_times : Option Addr} {sl_law_times : Array (Option Value)} {oc_law_times kV_law_times dc_law_times pm_law_times cd_law_times ct_law_times : Value}
    (a_law_times : PySem.W.nsIn K mainGlobals "_law_times" = some (some (.ref f_law_times)))
    (l_law_times : K.lookup f_law_times = some ⟨oc_law_times, od_law_times, .func (PySem.W.fnOf "_law_times" "_law_times" (defArgs s_law_times) (defBody s_law_times) (defScope s_law_times) .none kV_law_times dc_law_times pm_law_times an_law_times cd_law_times ct_law_times), sl_law_times⟩)
    (c_law_times : PySem.W.codeIn K cd_law_times "_law_times" = true) (k_law_times : PySem.W.keepIn K (.ref f_law_times) = true)
    {f_law_det : Addr} {od_law_det an_law_det : Option Addr} {sl_law_det : Array (Option Value)} {oc_law_det kV_law_det dc_law_det pm_law_det cd_law_det ct_law_det : Value}
    (a_law_det : PySem.W.nsIn K mainGlobals "_law_det" = some (some (.ref f_law_det)))
    (l_law_det : K.lookup f_law_det = some ⟨oc_law_det, od_law_det, .func (PySem.W.fnOf "_law_det" "_law_det" (defArgs s_law_det) (defBody s_law_det) (defScope s_law_det) .none kV_law_det dc_law_det pm_law_det an_law_det cd_law_det ct_law_det), sl_law_det⟩)
    (c_law_det : PySem.W.codeIn K cd_law_det "_law_det" = true) (k_law_det : PySem.W.keepIn K (.ref f_law_det) = true)
    {f_law_row : Addr} {od_law_row an_law_row : Option Addr} {sl_law_row : Array (Option Value)} {oc_law_row kV_law_row dc_law_row pm_law_row cd_law_row ct_law_row : Value}
    (a_law_row : PySem.W.nsIn K mainGlobals "_law_row" = some (some (.ref f_law_row)))
    (l_law_row : K.lookup f_law_row = some ⟨oc_law_row, od_law_row, .func (PySem.W.fnOf "_law_row" "_law_row" (defArgs s_law_row) (defBody s_law_row) (defScope s_law_row) .none kV_law_row dc_law_row pm_law_row an_law_row cd_law_row ct_law_row), sl_law_row⟩)
    (c_law_row : PySem.W.codeIn K cd_law_row "_law_row" = true) (k_law_row : PySem.W.keepIn K (.ref f_law_row) = true)
    {f_law_table : Addr} {od_law_table an_law_table : Option Addr} {sl_law_table : Array (Option Value)} {oc_law_table kV_law_table dc_law_table pm_law_table cd_law_table ct_law_table : Value}
    (a_law_table : PySem.W.nsIn K mainGlobals "_law_table" = some (some (.ref f_law_table)))
    (l_law_table : K.lookup f_law_table = some ⟨oc_law_table, od_law_table, .func (PySem.W.fnOf "_law_table" "_law_table" (defArgs s_law_table) (defBody s_law_table) (defScope s_law_table) .none kV_law_table dc_law_table pm_law_table an_law_table cd_law_table ct_law_table), sl_law_table⟩)
    (c_law_table : PySem.W.codeIn K cd_law_table "_law_table" = true) (k_law_table : PySem.W.keepIn K (.ref f_law_table) = true)
    {f_law_steps : Addr} {od_law_steps an_law_steps : Option Addr} {sl_law_steps : Array (Option Value)} {oc_law_steps kV_law_steps dc_law_steps pm_law_steps cd_law_steps ct_law_steps : Value}
    (a_law_steps : PySem.W.nsIn K mainGlobals "_law_steps" = some (some (.ref f_law_steps)))
    (l_law_steps : K.lookup f_law_steps = some ⟨oc_law_steps, od_law_steps, .func (PySem.W.fnOf "_law_steps" "_law_steps" (defArgs s_law_steps) (defBody s_law_steps) (defScope s_law_steps) .none kV_law_steps dc_law_steps pm_law_steps an_law_steps cd_law_steps ct_law_steps), sl_law_steps⟩)
    (c_law_steps : PySem.W.codeIn K cd_law_steps "_law_steps" = true) (k_law_steps : PySem.W.keepIn K (.ref f_law_steps) = true)
    {f_law_refused : Addr} {od_law_refused an_law_refused : Option Addr} {sl_law_refused : Array (Option Value)} {oc_law_refused kV_law_refused dc_law_refused pm_law_refused cd_law_refused ct_law_refused : Value}
    (a_law_refused : PySem.W.nsIn K mainGlobals "_law_refused" = some (some (.ref f_law_refused)))
    (l_law_refused : K.lookup f_law_refused = some ⟨oc_law_refused, od_law_refused, .func (PySem.W.fnOf "_law_refused" "_law_refused" (defArgs s_law_refused) (defBody s_law_refused) (defScope s_law_refused) .none kV_law_refused dc_law_refused pm_law_refused an_law_refused cd_law_refused ct_law_refused), sl_law_refused⟩)
    (c_law_refused : PySem.W.codeIn K cd_law_refused "_law_refused" = true) (k_law_refused : PySem.W.keepIn K (.ref f_law_refused) = true)
    {f_law : Addr} {od_law an_law : Option Addr} {sl_law : Array (Option Value)} {oc_law kV_law dc_law pm_law cd_law ct_law : Value}
    (a_law : PySem.W.nsIn K mainGlobals "law" = some (some (.ref f_law)))
    (l_law : K.lookup f_law = some ⟨oc_law, od_law, .func (PySem.W.fnOf "law" "law" (defArgs s_law) (defBody s_law) (defScope s_law) .none kV_law dc_law pm_law an_law cd_law ct_law), sl_law⟩)
    (c_law : PySem.W.codeIn K cd_law "law" = true) (k_law : PySem.W.keepIn K (.ref f_law) = true)
    (z_abs : PySem.W.nsIn K mainGlobals "abs" = some none)
    (z_int : PySem.W.nsIn K mainGlobals "int" = some none)
    (z_range : PySem.W.nsIn K mainGlobals "range" = some none)
    (z_len : PySem.W.nsIn K mainGlobals "len" = some none)
    (z_tuple : PySem.W.nsIn K mainGlobals "tuple" = some none)
    (z_isinstance : PySem.W.nsIn K mainGlobals "isinstance" = some none)
    (z_ValueError : PySem.W.nsIn K mainGlobals "ValueError" = some none)
    {C_BadMatrix : Addr} (ga_BadMatrix : PySem.W.nsIn K mainGlobals "BadMatrix" = some (some (.ref C_BadMatrix))) (x_BadMatrix : PySem.W.excIn K C_BadMatrix [.type "ValueError", .type "Exception", .type "BaseException", .type "object"] "ValueError.__new__" = true) (kc_BadMatrix : PySem.W.keepIn K (.ref C_BadMatrix) = true) (bc_BadMatrix : PySem.W.subIn K (.ref C_BadMatrix) (.type "BaseException") = some true) (tc_BadMatrix : PySem.W.typeIn K (.ref C_BadMatrix) = some (.type "type")) (ic_BadMatrix : PySem.W.hasDictIn K C_BadMatrix = true)
    {C_ConeroomError : Addr} (ga_ConeroomError : PySem.W.nsIn K mainGlobals "ConeroomError" = some (some (.ref C_ConeroomError))) (x_ConeroomError : PySem.W.excIn K C_ConeroomError [.type "ValueError", .type "Exception", .type "BaseException", .type "object"] "ValueError.__new__" = true) (kc_ConeroomError : PySem.W.keepIn K (.ref C_ConeroomError) = true) (bc_ConeroomError : PySem.W.subIn K (.ref C_ConeroomError) (.type "BaseException") = some true) (tc_ConeroomError : PySem.W.typeIn K (.ref C_ConeroomError) = some (.type "type")) (ic_ConeroomError : PySem.W.hasDictIn K C_ConeroomError = true)
    {C_BadForm : Addr} (ga_BadForm : PySem.W.nsIn K mainGlobals "BadForm" = some (some (.ref C_BadForm))) (x_BadForm : PySem.W.excIn K C_BadForm [.type "ValueError", .type "Exception", .type "BaseException", .type "object"] "ValueError.__new__" = true) (kc_BadForm : PySem.W.keepIn K (.ref C_BadForm) = true) (bc_BadForm : PySem.W.subIn K (.ref C_BadForm) (.type "BaseException") = some true) (tc_BadForm : PySem.W.typeIn K (.ref C_BadForm) = some (.type "type")) (ic_BadForm : PySem.W.hasDictIn K C_BadForm = true)
    (hg_BadMatrix : PySem.W.findIn K (.ref C_BadMatrix) "__getattribute__" = some (some (.builtin "BaseException.__getattribute__")))
    (hk_BadMatrix : PySem.W.findIn K (.ref C_BadMatrix) "__getattr__" = some none)
    (ha_BadMatrix : PySem.W.findIn K (.ref C_BadMatrix) "__class__" = some (some (.builtin "object.__class__")))
    (hn_BadMatrix : PySem.W.specialIn K (.builtin "object.__class__") "__get__" = some (some (.builtin "getset_descriptor.__get__")))
    (ht_BadMatrix : PySem.W.takesIn K (.builtin "object.__class__") = some true)
    (hm_BadMatrix : PySem.W.mroIn K C_BadMatrix (.type "object") = some true)
    (s_BadMatrix_ConeroomError : PySem.W.subIn K (.ref C_BadMatrix) (.ref C_ConeroomError) = some true)
    (ss_BadMatrix : PySem.W.subIn K (.ref C_BadMatrix) (.ref C_BadMatrix) = some true)
    (kt_BadMatrix_BadMatrix : PySem.W.subIn K (.ref C_BadMatrix) (.ref C_BadMatrix) = some true)
    (kt_BadMatrix_ValueError : PySem.W.subIn K (.ref C_BadMatrix) (.type "ValueError") = some true)
    (kt_BadMatrix_BadForm : PySem.W.subIn K (.ref C_BadMatrix) (.ref C_BadForm) = some false) :
    ∃ fd : FuncData, (∀ (s : Shared) (v : Value), BindsTo s fd ⟨[v], []⟩ [("script", v)]) ∧ ∀ base : Heap, K.In base → base.Ns mainGlobals mg → FnOk l.prog w K mg base CX0 6 fa fd ["script"] (spLaw K) := by
  have e := hfa.symm.trans (PySem.W.mg_of X G a_law)
  cases e
  have F_dot := fun_mk (st := s_dot) l_dot c_dot k_dot
  have b_dot := F_dot.binds (ps := ["first", "second"]) fun _ _ _ _ _ _ us hl => match us, hl with | [_, _], _ => rfl
  have F_cross := fun_mk (st := s_cross) l_cross c_cross k_cross
  have b_cross := F_cross.binds (ps := ["first", "second"]) fun _ _ _ _ _ _ us hl => match us, hl with | [_, _], _ => rfl
  have F_transposed := fun_mk (st := s_transposed) l_transposed c_transposed k_transposed
  have b_transposed := F_transposed.binds (ps := ["matrix"]) fun _ _ _ _ _ _ us hl => match us, hl with | [_], _ => rfl
  have F_image := fun_mk (st := s_image) l_image c_image k_image
  have b_image := F_image.binds (ps := ["matrix", "row"]) fun _ _ _ _ _ _ us hl => match us, hl with | [_, _], _ => rfl
  have F_matrix_product := fun_mk (st := s_matrix_product) l_matrix_product c_matrix_product k_matrix_product
  have b_matrix_product := F_matrix_product.binds (ps := ["first", "second"]) fun _ _ _ _ _ _ us hl => match us, hl with | [_, _], _ => rfl
  have F_determinant_of := fun_mk (st := s_determinant_of) l_determinant_of c_determinant_of k_determinant_of
  have b_determinant_of := F_determinant_of.binds (ps := ["matrix"]) fun _ _ _ _ _ _ us hl => match us, hl with | [_], _ => rfl
  have F_adjugate_of := fun_mk (st := s_adjugate_of) l_adjugate_of c_adjugate_of k_adjugate_of
  have b_adjugate_of := F_adjugate_of.binds (ps := ["matrix"]) fun _ _ _ _ _ _ us hl => match us, hl with | [_], _ => rfl
  have F_has_inverse := fun_mk (st := s_has_inverse) l_has_inverse c_has_inverse k_has_inverse
  have b_has_inverse := F_has_inverse.binds (ps := ["matrix"]) fun _ _ _ _ _ _ us hl => match us, hl with | [_], _ => rfl
  have F_inverse_of := fun_mk (st := s_inverse_of) l_inverse_of c_inverse_of k_inverse_of
  have b_inverse_of := F_inverse_of.binds (ps := ["matrix"]) fun _ _ _ _ _ _ us hl => match us, hl with | [_], _ => rfl
  have F_law_draws := fun_mk (st := s_law_draws) l_law_draws c_law_draws k_law_draws
  have b_law_draws := F_law_draws.binds (ps := ["script", "many"]) fun _ _ _ _ _ _ us hl => match us, hl with | [_, _], _ => rfl
  have F_law_image := fun_mk (st := s_law_image) l_law_image c_law_image k_law_image
  have b_law_image := F_law_image.binds (ps := ["matrix", "row"]) fun _ _ _ _ _ _ us hl => match us, hl with | [_, _], _ => rfl
  have F_law_times := fun_mk (st := s_law_times) l_law_times c_law_times k_law_times
  have b_law_times := F_law_times.binds (ps := ["first", "second"]) fun _ _ _ _ _ _ us hl => match us, hl with | [_, _], _ => rfl
  have F_law_det := fun_mk (st := s_law_det) l_law_det c_law_det k_law_det
  have b_law_det := F_law_det.binds (ps := ["m"]) fun _ _ _ _ _ _ us hl => match us, hl with | [_], _ => rfl
  have F_law_row := fun_mk (st := s_law_row) l_law_row c_law_row k_law_row
  have b_law_row := F_law_row.binds (ps := ["draws", "most"]) fun _ _ _ _ _ _ us hl => match us, hl with | [_, _], _ => rfl
  have F_law_table := fun_mk (st := s_law_table) l_law_table c_law_table k_law_table
  have b_law_table := F_law_table.binds (ps := ["draws", "far"]) fun _ _ _ _ _ _ us hl => match us, hl with | [_, _], _ => rfl
  have F_law_steps := fun_mk (st := s_law_steps) l_law_steps c_law_steps k_law_steps
  have b_law_steps := F_law_steps.binds (ps := ["draws", "many"]) fun _ _ _ _ _ _ us hl => match us, hl with | [_, _], _ => rfl
  have F_law_refused := fun_mk (st := s_law_refused) l_law_refused c_law_refused k_law_refused
  have b_law_refused := F_law_refused.binds (ps := ["matrix"]) fun _ _ _ _ _ _ us hl => match us, hl with | [_], _ => rfl
  have F_law := fun_mk (st := s_law) l_law c_law k_law
  have T : Txt K mg := { a_dot := f_dot, fd_dot := _, F_dot := F_dot, b_dot := b_dot, g_dot := PySem.W.mg_of X G a_dot, a_cross := f_cross, fd_cross := _, F_cross := F_cross, b_cross := b_cross, g_cross := PySem.W.mg_of X G a_cross, a_transposed := f_transposed, fd_transposed := _, F_transposed := F_transposed, b_transposed := b_transposed, g_transposed := PySem.W.mg_of X G a_transposed, a_image := f_image, fd_image := _, F_image := F_image, b_image := b_image, g_image := PySem.W.mg_of X G a_image, a_matrix_product := f_matrix_product, fd_matrix_product := _, F_matrix_product := F_matrix_product, b_matrix_product := b_matrix_product, g_matrix_product := PySem.W.mg_of X G a_matrix_product, a_determinant_of := f_determinant_of, fd_determinant_of := _, F_determinant_of := F_determinant_of, b_determinant_of := b_determinant_of, g_determinant_of := PySem.W.mg_of X G a_determinant_of, a_adjugate_of := f_adjugate_of, fd_adjugate_of := _, F_adjugate_of := F_adjugate_of, b_adjugate_of := b_adjugate_of, g_adjugate_of := PySem.W.mg_of X G a_adjugate_of, a_has_inverse := f_has_inverse, fd_has_inverse := _, F_has_inverse := F_has_inverse, b_has_inverse := b_has_inverse, g_has_inverse := PySem.W.mg_of X G a_has_inverse, a_inverse_of := f_inverse_of, fd_inverse_of := _, F_inverse_of := F_inverse_of, b_inverse_of := b_inverse_of, g_inverse_of := PySem.W.mg_of X G a_inverse_of, a_law_draws := f_law_draws, fd_law_draws := _, F_law_draws := F_law_draws, b_law_draws := b_law_draws, g_law_draws := PySem.W.mg_of X G a_law_draws, a_law_image := f_law_image, fd_law_image := _, F_law_image := F_law_image, b_law_image := b_law_image, g_law_image := PySem.W.mg_of X G a_law_image, a_law_times := f_law_times, fd_law_times := _, F_law_times := F_law_times, b_law_times := b_law_times, g_law_times := PySem.W.mg_of X G a_law_times, a_law_det := f_law_det, fd_law_det := _, F_law_det := F_law_det, b_law_det := b_law_det, g_law_det := PySem.W.mg_of X G a_law_det, a_law_row := f_law_row, fd_law_row := _, F_law_row := F_law_row, b_law_row := b_law_row, g_law_row := PySem.W.mg_of X G a_law_row, a_law_table := f_law_table, fd_law_table := _, F_law_table := F_law_table, b_law_table := b_law_table, g_law_table := PySem.W.mg_of X G a_law_table, a_law_steps := f_law_steps, fd_law_steps := _, F_law_steps := F_law_steps, b_law_steps := b_law_steps, g_law_steps := PySem.W.mg_of X G a_law_steps, a_law_refused := f_law_refused, fd_law_refused := _, F_law_refused := F_law_refused, b_law_refused := b_law_refused, g_law_refused := PySem.W.mg_of X G a_law_refused, z_abs := PySem.W.mg_none_of X G z_abs, z_int := PySem.W.mg_none_of X G z_int, z_range := PySem.W.mg_none_of X G z_range, z_len := PySem.W.mg_none_of X G z_len, z_tuple := PySem.W.mg_none_of X G z_tuple, z_isinstance := PySem.W.mg_none_of X G z_isinstance, z_ValueError := PySem.W.mg_none_of X G z_ValueError, C_BadMatrix := C_BadMatrix, g_BadMatrix := PySem.W.mg_of X G ga_BadMatrix, x_BadMatrix := x_BadMatrix, k_BadMatrix := kc_BadMatrix, b_BadMatrix := bc_BadMatrix, t_BadMatrix := tc_BadMatrix, h_BadMatrix := ic_BadMatrix, C_ConeroomError := C_ConeroomError, g_ConeroomError := PySem.W.mg_of X G ga_ConeroomError, x_ConeroomError := x_ConeroomError, k_ConeroomError := kc_ConeroomError, b_ConeroomError := bc_ConeroomError, t_ConeroomError := tc_ConeroomError, h_ConeroomError := ic_ConeroomError, C_BadForm := C_BadForm, g_BadForm := PySem.W.mg_of X G ga_BadForm, x_BadForm := x_BadForm, k_BadForm := kc_BadForm, b_BadForm := bc_BadForm, t_BadForm := tc_BadForm, h_BadForm := ic_BadForm, E_BadMatrix := ⟨hg_BadMatrix, hk_BadMatrix, bc_BadMatrix, ic_BadMatrix, ha_BadMatrix, hn_BadMatrix, ht_BadMatrix, hm_BadMatrix⟩, m_BadMatrix_ConeroomError := PySem.W.exm_ref bc_ConeroomError ic_ConeroomError tc_ConeroomError s_BadMatrix_ConeroomError, k_BadMatrix_BadMatrix := kit_ref ss_BadMatrix kt_BadMatrix_BadMatrix ic_BadMatrix tc_BadMatrix, k_BadMatrix_ValueError := kit_typ kt_BadMatrix_ValueError (by decide +kernel), k_BadMatrix_BadForm := kit_ref ss_BadMatrix kt_BadMatrix_BadForm ic_BadForm tc_BadForm }
  exact ⟨PySem.W.fnOf "law" "law" (defArgs s_law) (defBody s_law) (defScope s_law) .none kV_law dc_law pm_law an_law cd_law ct_law, fun s v => .of_eq rfl, fun base _ _ => ok_law F_law T⟩
end Kx
open PySem PySem.W PyProof.Rows
set_option maxHeartbeats 0 in
theorem PySem.Challenge.cw_coneroom_k00_images_and_inverses_holds : PySem.Challenge.rw_coneroom_k00_images_and_inverses.Holds := by
  w_on; o_law; k_head; (case hw => w_witness2)
  k_fill
  refine L2.walk_of (l := PySem.Challenge.rw_coneroom_k00_images_and_inverses) (n := 63) (k := 6) (x := "script") (CX := fun w => L2.CX0) (sp := fun w => Kx.spLaw _) rfl (by decide) rfl ⟨rfl, by decide, by decide⟩ (fun w h Y => PySem.W.kIn_of Y) ?F (fun _ _ a ns hl _ hS => ⟨a, ns, rfl, hS, hl, fun _ => rfl⟩) (fun _ _ _ _ _ h => h)
  case F =>
    intro w mg fa h KX G hmg
    refine' Kx.all_mk KX G hmg ?a_dot ?l_dot ?c_dot ?k_dot ?a_cross ?l_cross ?c_cross ?k_cross ?a_transposed ?l_transposed ?c_transposed ?k_transposed ?a_image ?l_image ?c_image ?k_image ?a_matrix_product ?l_matrix_product ?c_matrix_product ?k_matrix_product ?a_determinant_of ?l_determinant_of ?c_determinant_of ?k_determinant_of ?a_adjugate_of ?l_adjugate_of ?c_adjugate_of ?k_adjugate_of ?a_has_inverse ?l_has_inverse ?c_has_inverse ?k_has_inverse ?a_inverse_of ?l_inverse_of ?c_inverse_of ?k_inverse_of ?a_law_draws ?l_law_draws ?c_law_draws ?k_law_draws ?a_law_image ?l_law_image ?c_law_image ?k_law_image ?a_law_times ?l_law_times ?c_law_times ?k_law_times ?a_law_det ?l_law_det ?c_law_det ?k_law_det ?a_law_row ?l_law_row ?c_law_row ?k_law_row ?a_law_table ?l_law_table ?c_law_table ?k_law_table ?a_law_steps ?l_law_steps ?c_law_steps ?k_law_steps ?a_law_refused ?l_law_refused ?c_law_refused ?k_law_refused ?a_law ?l_law ?c_law ?k_law ?z_abs ?z_int ?z_range ?z_len ?z_tuple ?z_isinstance ?z_ValueError ?ga_BadMatrix ?x_BadMatrix ?kc_BadMatrix ?bc_BadMatrix ?tc_BadMatrix ?ic_BadMatrix ?ga_ConeroomError ?x_ConeroomError ?kc_ConeroomError ?bc_ConeroomError ?tc_ConeroomError ?ic_ConeroomError ?ga_BadForm ?x_BadForm ?kc_BadForm ?bc_BadForm ?tc_BadForm ?ic_BadForm ?hg_BadMatrix ?hk_BadMatrix ?ha_BadMatrix ?hn_BadMatrix ?ht_BadMatrix ?hm_BadMatrix ?s_BadMatrix_ConeroomError ?ss_BadMatrix ?kt_BadMatrix_BadMatrix ?kt_BadMatrix_ValueError ?kt_BadMatrix_BadForm
    (case a_dot => k_is)
    (case l_dot => k_is)
    (case c_dot => k_is)
    (case k_dot => k_is)
    (case a_cross => k_is)
    (case l_cross => k_is)
    (case c_cross => k_is)
    (case k_cross => k_is)
    (case a_transposed => k_is)
    (case l_transposed => k_is)
    (case c_transposed => k_is)
    (case k_transposed => k_is)
    (case a_image => k_is)
    (case l_image => k_is)
    (case c_image => k_is)
    (case k_image => k_is)
    (case a_matrix_product => k_is)
    (case l_matrix_product => k_is)
    (case c_matrix_product => k_is)
    (case k_matrix_product => k_is)
    (case a_determinant_of => k_is)
    (case l_determinant_of => k_is)
    (case c_determinant_of => k_is)
    (case k_determinant_of => k_is)
    (case a_adjugate_of => k_is)
    (case l_adjugate_of => k_is)
    (case c_adjugate_of => k_is)
    (case k_adjugate_of => k_is)
    (case a_has_inverse => k_is)
    (case l_has_inverse => k_is)
    (case c_has_inverse => k_is)
    (case k_has_inverse => k_is)
    (case a_inverse_of => k_is)
    (case l_inverse_of => k_is)
    (case c_inverse_of => k_is)
    (case k_inverse_of => k_is)
    (case a_law_draws => k_is)
    (case l_law_draws => k_is)
    (case c_law_draws => k_is)
    (case k_law_draws => k_is)
    (case a_law_image => k_is)
    (case l_law_image => k_is)
    (case c_law_image => k_is)
    (case k_law_image => k_is)
    (case a_law_times => k_is)
    (case l_law_times => k_is)
    (case c_law_times => k_is)
    (case k_law_times => k_is)
    (case a_law_det => k_is)
    (case l_law_det => k_is)
    (case c_law_det => k_is)
    (case k_law_det => k_is)
    (case a_law_row => k_is)
    (case l_law_row => k_is)
    (case c_law_row => k_is)
    (case k_law_row => k_is)
    (case a_law_table => k_is)
    (case l_law_table => k_is)
    (case c_law_table => k_is)
    (case k_law_table => k_is)
    (case a_law_steps => k_is)
    (case l_law_steps => k_is)
    (case c_law_steps => k_is)
    (case k_law_steps => k_is)
    (case a_law_refused => k_is)
    (case l_law_refused => k_is)
    (case c_law_refused => k_is)
    (case k_law_refused => k_is)
    (case a_law => k_is)
    (case l_law => k_is)
    (case c_law => k_is)
    (case k_law => k_is)
    (case z_abs => k_is)
    (case z_int => k_is)
    (case z_range => k_is)
    (case z_len => k_is)
    (case z_tuple => k_is)
    (case z_isinstance => k_is)
    (case z_ValueError => k_is)
    (case ga_BadMatrix => k_is)
    (case x_BadMatrix => k_exc)
    (case kc_BadMatrix => k_is)
    (case bc_BadMatrix => k_is)
    (case tc_BadMatrix => k_is)
    (case ic_BadMatrix => k_is)
    (case ga_ConeroomError => k_is)
    (case x_ConeroomError => k_exc)
    (case kc_ConeroomError => k_is)
    (case bc_ConeroomError => k_is)
    (case tc_ConeroomError => k_is)
    (case ic_ConeroomError => k_is)
    (case ga_BadForm => k_is)
    (case x_BadForm => k_exc)
    (case kc_BadForm => k_is)
    (case bc_BadForm => k_is)
    (case tc_BadForm => k_is)
    (case ic_BadForm => k_is)
    (case hg_BadMatrix => k_is)
    (case hk_BadMatrix => k_is)
    (case ha_BadMatrix => k_is)
    (case hn_BadMatrix => k_is)
    (case ht_BadMatrix => k_is)
    (case hm_BadMatrix => k_is)
    (case s_BadMatrix_ConeroomError => k_is)
    (case ss_BadMatrix => k_is)
    (case kt_BadMatrix_BadMatrix => k_is)
    (case kt_BadMatrix_ValueError => k_is)
    (case kt_BadMatrix_BadForm => k_is)
