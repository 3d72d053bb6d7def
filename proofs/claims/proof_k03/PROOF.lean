import PyProof.Rows.All
import Wide.All
import OpenK.AllK
import Wide.FinOn
import HandS.ForMost
import HandS.ForExc
import HandS.Conv
import HandS.Wide
import HandS.IsInst
import HandS.ExcIs
import HandS.Flow
import HandS.Style
import HandS.Gcd
import HandS.TupLe
import HandS.ExcOwn
import PyProof.InstEq
import HandS.TryOnly
import PyProof.MaxThree
import HandS.Star
import PySem.Challenge.RW_coneroom_k03_moved_forms
set_option Elab.async false
set_option linter.all false
set_option maxRecDepth 100000
set_option maxHeartbeats 4000000
/-! Cz: data (T) of values, what a frame knows of its names (D), judgements over data for the readings of HandS. -/
namespace Cz
open PySem PySem.Spec PyProof.Rows L2

/-! ### data: without lists -/
inductive T where
  | non | bl (b : Bool) | int (i : Int) | str (x : Str) | tup (ts : List T) | obj (C : Addr) (ns : List Str) (ts : List T)

mutual
inductive Rp (K : PySem.W.Frag) (H : Hp) : V → T → Prop
  | non : Rp K H .non .non
  | bl (b : Bool) : Rp K H (.bl b) (.bl b)
  | int (i : Int) : Rp K H (.int i) (.int i)
  | str (x : Str) : Rp K H (.str x) (.str x)
  | tup {a : Addr} {vs : List V} {ts : List T} : SqT K H a vs → Rps K H vs ts → Rp K H (.ref a) (.tup ts)
  | obj {a C dx : Addr} {fs : List (Str × V)} {ns : List Str} {ts : List T} : H a = some (.ins C dx fs) → fs.map (·.1) = ns → Rps K H (fs.map (·.2)) ts → Rp K H (.ref a) (.obj C ns ts)
inductive Rps (K : PySem.W.Frag) (H : Hp) : List V → List T → Prop
  | nil : Rps K H [] []
  | cons {v : V} {vs : List V} {t : T} {ts : List T} : Rp K H v t → Rps K H vs ts → Rps K H (v :: vs) (t :: ts)
end
/-- what never changes stays: tuples, made instances -/
structure Imm (H H' : Hp) : Prop where
  tup : ∀ a vs, Rd H a (.tup vs) → Rd H' a (.tup vs)
  ins : ∀ a C dx fs, H a = some (.ins C dx fs) → H' a = some (.ins C dx fs)
theorem Imm.sqT {K : PySem.W.Frag} {H H' : Hp} (m : Imm H H') {a : Addr} {vs : List V} (h : SqT K H a vs) : SqT K H' a vs := by
  rcases h with h | h
  · exact .inl (m.tup _ _ h)
  · exact .inr h
theorem Imm.of_same {H H' : Hp} (s : Same H H') : Imm H H' :=
  ⟨fun a vs h => by
    rcases h with h | ⟨o, h⟩
    · exact .inl (s _ _ h)
    · exact .inr ⟨o, s _ _ h⟩, fun a C dx fs h => s _ _ h⟩
/-- a list is changed -/
theorem Imm.of_lst {H : Hp} {a : Addr} {xs ys : List V} (h : H a = some (.lst xs)) : Imm H (upd H a (.lst ys)) :=
  ⟨fun b vs r => by
    rcases r with r | ⟨o, r⟩
    · exact .inl (by rw [upd_ne (ne_of r h (fun z => nomatch z))]; exact r)
    · exact .inr ⟨o, by rw [upd_ne (ne_of r h (fun z => nomatch z))]; exact r⟩,
   fun b C dx fs r => by rw [upd_ne (ne_of r h (fun z => nomatch z))]; exact r⟩
section
variable {K : PySem.W.Frag} {H H' : Hp}
mutual
theorem Rp.mono (m : Imm H H') : ∀ {v : V} {t : T}, Rp K H v t → Rp K H' v t
  | _, _, .non => .non
  | _, _, .bl b => .bl b
  | _, _, .int i => .int i
  | _, _, .str x => .str x
  | _, _, .tup h r => .tup (m.sqT h) (Rps.mono m r)
  | _, _, .obj h e r => .obj (m.ins _ _ _ _ h) e (Rps.mono m r)
theorem Rps.mono (m : Imm H H') : ∀ {vs : List V} {ts : List T}, Rps K H vs ts → Rps K H' vs ts
  | _, _, .nil => .nil
  | _, _, .cons h r => .cons (Rp.mono m h) (Rps.mono m r)
end
theorem Rps.length : ∀ {vs : List V} {ts : List T}, Rps K H vs ts → vs.length = ts.length
  | _, _, .nil => rfl
  | _, _, .cons _ r => by rw [List.length_cons, List.length_cons, Rps.length r]
theorem Rps.get : ∀ {vs : List V} {ts : List T} {i : Nat} {t : T}, Rps K H vs ts → ts[i]? = some t → ∃ v, vs[i]? = some v ∧ Rp K H v t
  | _, _, _, _, .nil, e => by simp at e
  | _, _, 0, _, .cons h _, e => by simp at e; subst e; exact ⟨_, rfl, h⟩
  | _, _, i + 1, t, .cons _ r, e => by
    obtain ⟨v, h1, h2⟩ := Rps.get (i := i) (t := t) r (by simpa using e)
    exact ⟨v, by simpa using h1, h2⟩
theorem Rps.at' : ∀ {vs : List V} {ts : List T} {i : Nat} {v : V}, Rps K H vs ts → vs[i]? = some v → ∃ t, ts[i]? = some t ∧ Rp K H v t
  | _, _, _, _, .nil, e => by simp at e
  | _, _, 0, _, .cons h _, e => by simp at e; subst e; exact ⟨_, rfl, h⟩
  | _, _, i + 1, v, .cons _ r, e => by
    obtain ⟨t, h1, h2⟩ := Rps.at' (i := i) (v := v) r (by simpa using e)
    exact ⟨t, by simpa using h1, h2⟩
theorem Rps.append : ∀ {vs ws : List V} {ts us : List T}, Rps K H vs ts → Rps K H ws us → Rps K H (vs ++ ws) (ts ++ us)
  | _, _, _, _, .nil, s => s
  | _, _, _, _, .cons h r, s => .cons h (Rps.append r s)
theorem Rps.take : ∀ {vs : List V} {ts : List T} (n : Nat), Rps K H vs ts → Rps K H (vs.take n) (ts.take n)
  | _, _, 0, _ => .nil
  | _, _, _ + 1, .nil => .nil
  | _, _, n + 1, .cons h r => .cons h (Rps.take n r)
theorem Rps.drop : ∀ {vs : List V} {ts : List T} (n : Nat), Rps K H vs ts → Rps K H (vs.drop n) (ts.drop n)
  | _, _, 0, r => r
  | _, _, _ + 1, .nil => .nil
  | _, _, n + 1, .cons _ r => Rps.drop n r
theorem Rps.set {v : V} {t : T} (h : Rp K H v t) : ∀ {vs : List V} {ts : List T} (i : Nat), Rps K H vs ts → Rps K H (vs.set i v) (ts.set i t)
  | _, _, _, .nil => .nil
  | _, _, 0, .cons _ r => .cons h r
  | _, _, i + 1, .cons q r => .cons q (Rps.set h i r)
theorem Rps.reverse : ∀ {vs : List V} {ts : List T}, Rps K H vs ts → Rps K H vs.reverse ts.reverse
  | _, _, .nil => .nil
  | _, _, .cons h r => by
    rw [List.reverse_cons, List.reverse_cons]
    exact (Rps.reverse r).append (.cons h .nil)
theorem Rps.dropLast {vs : List V} {ts : List T} (r : Rps K H vs ts) : Rps K H vs.dropLast ts.dropLast := by
  rw [List.dropLast_eq_take, List.dropLast_eq_take, r.length]
  exact r.take _
theorem Rps.ints : ∀ (ns : List Int), Rps K H (ns.map V.int) (ns.map T.int)
  | [] => .nil
  | n :: ns => .cons (.int n) (Rps.ints ns)
theorem Rps.ints_of : ∀ {vs : List V} {ns : List Int}, Rps K H vs (ns.map T.int) → vs = ns.map V.int
  | _, [], .nil => rfl
  | _, n :: ns, .cons (.int _) r => by rw [List.map_cons, Rps.ints_of r]
theorem Rps.bls_of : ∀ {vs : List V} {ns : List Bool}, Rps K H vs (ns.map T.bl) → vs = ns.map V.bl
  | _, [], .nil => rfl
  | _, n :: ns, .cons (.bl _) r => by rw [List.map_cons, Rps.bls_of r]
end

/-! ### what a frame knows of a name -/
inductive D where
  /-- nothing -/
  | no
  /-- data -/
  | t (x : T)
  /-- a list that is only read -/
  | l (xs : List T)
  /-- a list of the frame's own -/
  | own (xs : List T)
  /-- what stands at a, whatever it is -/
  | rf (a : Addr)
  /-- a list of lists that are only read -/
  | ll (xss : List (List T))

/-- a list at b that is only read -/
def LRd (K : PySem.W.Frag) (H : Hp) (ow : Addr → Prop) (b : Addr) (vs : List V) : Prop := SqL K H b vs ∧ (ow b → ∀ H', SqL K H' b vs)
inductive Lss (K : PySem.W.Frag) (H : Hp) (ow : Addr → Prop) : List V → List (List T) → Prop
  | nil : Lss K H ow [] []
  | cons {b : Addr} {ws : List V} {vs : List V} {xs : List T} {xss : List (List T)} : LRd K H ow b ws → Rps K H ws xs → Lss K H ow vs xss → Lss K H ow (.ref b :: vs) (xs :: xss)
def Sl (K : PySem.W.Frag) (H0 H : Hp) (ow : Addr → Prop) (a : Addr) : Option (Option V) → D → Prop
  | _, .no => True
  | some (some v), .t x => Rp K H v x
  | some (some v), .l xs => ∃ b vs, v = .ref b ∧ SqL K H b vs ∧ (ow b → ∀ H', SqL K H' b vs) ∧ Rps K H vs xs
  | some (some v), .own xs => v = .ref a ∧ H0 a = none ∧ ∃ vs, H a = some (.lst vs) ∧ Rps K H vs xs
  | some (some v), .rf b => v = .ref b
  | some (some v), .ll xss => ∃ b vs, v = .ref b ∧ LRd K H ow b vs ∧ Lss K H ow vs xss
  | _, _ => False
/-- b is a list of the frame's own -/
def IsOwn (Γ : List D) (A : Nat → Addr) (b : Addr) : Prop := ∃ j xs, Γ[j]? = some (.own xs) ∧ A j = b

structure EnvD (K : PySem.W.Frag) (H0 H : Hp) (σ : L2.St) (Γ : List D) (A : Nat → Addr) : Prop where
  same : Same H0 H
  len : σ.length = Γ.length
  sl : ∀ i d, Γ[i]? = some d → Sl K H0 H (IsOwn Γ A) (A i) σ[i]? d
  ne : ∀ i j xs ys, Γ[i]? = some (.own xs) → Γ[j]? = some (.own ys) → i ≠ j → A i ≠ A j

theorem sqL_of_none {K : PySem.W.Frag} {H : Hp} {b : Addr} {vs : List V} (h : SqL K H b vs) (n : H b = none) : ∀ H', SqL K H' b vs := fun H' => by
  rcases h with (h | ⟨o, h⟩) | h
  · rw [n] at h; cases h
  · rw [n] at h; cases h
  · exact .inr h
/-- from one state to a later one: all but own lists stays; own lists are own or new -/
structure Go (Γ : List D) (A : Nat → Addr) (H : Hp) (Γ' : List D) (A' : Nat → Addr) (H' : Hp) : Prop where
  kp : ∀ b o, H b = some o → ¬ IsOwn Γ A b → H' b = some o
  ow : ∀ b, IsOwn Γ' A' b → IsOwn Γ A b ∨ H b = none

section
variable {K : PySem.W.Frag} {H0 H H' : Hp} {σ : L2.St} {Γ : List D} {A : Nat → Addr}
theorem own_of_set {k i : Nat} {d : D} {ys : List T} (hd : ∀ zs, d ≠ .own zs) (h : (Γ.set k d)[i]? = some (.own ys)) : Γ[i]? = some (.own ys) := by
  by_cases e : k = i
  · subst e
    by_cases hk : k < Γ.length
    · rw [List.getElem?_set_self hk] at h
      exact absurd (Option.some.inj h) (hd ys)
    · rw [List.getElem?_eq_none (by rw [List.length_set]; omega)] at h; cases h
  · rw [List.getElem?_set_ne e] at h; exact h
theorem IsOwn.of_set {k : Nat} {d : D} {b : Addr} (hd : ∀ zs, d ≠ .own zs) : IsOwn (Γ.set k d) A b → IsOwn Γ A b := fun ⟨j, xs, h, e⟩ => ⟨j, xs, own_of_set hd h, e⟩
theorem IsOwn.of_chg {k : Nat} {xs ys : List T} {b : Addr} (h : Γ[k]? = some (.own xs)) : IsOwn (Γ.set k (.own ys)) A b → IsOwn Γ A b := fun ⟨j, zs, hj, e⟩ => by
  by_cases ej : k = j
  · subst ej; exact ⟨k, xs, h, e⟩
  · rw [List.getElem?_set_ne ej] at hj; exact ⟨j, zs, hj, e⟩
theorem LRd.mono {ow ow' : Addr → Prop} (kl : ∀ b vs, SqL K H b vs → ¬ ow b → SqL K H' b vs) (ho : ∀ b vs, SqL K H b vs → ow' b → ow b ∨ H b = none) {b : Addr} {vs : List V} (h : LRd K H ow b vs) : LRd K H' ow' b vs := by
  obtain ⟨s, w⟩ := h
  refine ⟨?_, fun z => ?_⟩
  · by_cases z : ow b
    · exact w z H'
    · exact kl b vs s z
  · rcases ho b vs s z with z | z
    · exact w z
    · exact sqL_of_none s z
theorem Lss.mono {ow ow' : Addr → Prop} (m : Imm H H') (kl : ∀ b vs, SqL K H b vs → ¬ ow b → SqL K H' b vs) (ho : ∀ b vs, SqL K H b vs → ow' b → ow b ∨ H b = none) : ∀ {vs : List V} {xss : List (List T)}, Lss K H ow vs xss → Lss K H' ow' vs xss
  | _, _, .nil => .nil
  | _, _, .cons h r t => .cons (h.mono kl ho) (r.mono m) (Lss.mono m kl ho t)
theorem Lss.length {ow : Addr → Prop} : ∀ {vs : List V} {xss : List (List T)}, Lss K H ow vs xss → vs.length = xss.length
  | _, _, .nil => rfl
  | _, _, .cons _ _ r => by rw [List.length_cons, List.length_cons, Lss.length r]
theorem Lss.at' {ow : Addr → Prop} : ∀ {vs : List V} {xss : List (List T)} {i : Nat} {v : V}, Lss K H ow vs xss → vs[i]? = some v → ∃ b ws xs, v = .ref b ∧ xss[i]? = some xs ∧ LRd K H ow b ws ∧ Rps K H ws xs
  | _, _, _, _, .nil, e => by simp at e
  | _, _, 0, _, .cons h r _, e => by
    rw [List.getElem?_cons_zero] at e
    exact ⟨_, _, _, (Option.some.inj e).symm, rfl, h, r⟩
  | _, _, i + 1, v, .cons _ _ t, e => Lss.at' (i := i) (v := v) t (by simpa using e)
/-- a slot's word in a later heap -/
theorem Sl.mono {ow ow' : Addr → Prop} {a : Addr} {o : Option (Option V)} {d : D} (m : Imm H H') (kl : ∀ b vs, SqL K H b vs → ¬ ow b → SqL K H' b vs) (ho : ∀ b vs, SqL K H b vs → ow' b → ow b ∨ H b = none)
    (hl : ∀ xs vs, d = .own xs → H a = some (.lst vs) → H' a = some (.lst vs)) (h : Sl K H0 H ow a o d) : Sl K H0 H' ow' a o d := by
  cases d with
  | no => cases o with
    | none => trivial
    | some o => cases o <;> trivial
  | t x => cases o with
    | none => exact h
    | some o => cases o with
      | none => exact h
      | some v => exact Rp.mono m h
  | l xs => cases o with
    | none => exact h
    | some o => cases o with
      | none => exact h
      | some v =>
        obtain ⟨b, vs, e, s, w, r⟩ := h
        refine ⟨b, vs, e, ?_, fun z => ?_, r.mono m⟩
        · by_cases z : ow b
          · exact w z H'
          · exact kl b vs s z
        · rcases ho b vs s z with z | z
          · exact w z
          · exact sqL_of_none s z
  | own xs => cases o with
    | none => exact h
    | some o => cases o with
      | none => exact h
      | some v => obtain ⟨e, n, vs, s, r⟩ := h; exact ⟨e, n, vs, hl xs vs rfl s, r.mono m⟩
  | rf b => cases o with
    | none => exact h
    | some o => cases o <;> exact h
  | ll xss => cases o with
    | none => exact h
    | some o => cases o with
      | none => exact h
      | some v => obtain ⟨b, vs, e, s, r⟩ := h; exact ⟨b, vs, e, s.mono kl ho, r.mono m kl ho⟩
theorem EnvD.mono (E : EnvD K H0 H σ Γ A) (s : Same H H') : EnvD K H0 H' σ Γ A :=
  ⟨E.same.trans s, E.len, fun i d h => (E.sl i d h).mono (Imm.of_same s) (fun _ _ q _ => s.seq q) (fun _ _ _ z => .inl z) (fun _ _ _ q => s _ _ q), E.ne⟩
theorem EnvD.tv {i : Nat} {x : T} (E : EnvD K H0 H σ Γ A) (h : Γ[i]? = some (.t x)) : ∃ v, σ[i]? = some (some v) ∧ Rp K H v x := by
  have q := E.sl i _ h
  cases e : σ[i]? with
  | none => rw [e] at q; exact q.elim
  | some o => cases o with
    | none => rw [e] at q; exact q.elim
    | some v => rw [e] at q; exact ⟨v, rfl, q⟩
theorem EnvD.ow {i : Nat} {xs : List T} (E : EnvD K H0 H σ Γ A) (h : Γ[i]? = some (.own xs)) : σ[i]? = some (some (.ref (A i))) ∧ H0 (A i) = none ∧ ∃ vs, H (A i) = some (.lst vs) ∧ Rps K H vs xs := by
  have q := E.sl i _ h
  cases e : σ[i]? with
  | none => rw [e] at q; exact q.elim
  | some o => cases o with
    | none => rw [e] at q; exact q.elim
    | some v =>
      rw [e] at q
      obtain ⟨e1, n, vs, s, r⟩ := q
      rw [e1]
      exact ⟨rfl, n, vs, s, r⟩
theorem EnvD.rv {i : Nat} {a : Addr} (E : EnvD K H0 H σ Γ A) (h : Γ[i]? = some (.rf a)) : σ[i]? = some (some (.ref a)) := by
  have q := E.sl i _ h
  cases e : σ[i]? with
  | none => rw [e] at q; exact q.elim
  | some o => cases o with
    | none => rw [e] at q; exact q.elim
    | some v => rw [e] at q; exact congrArg (fun z => some (some z)) q
theorem EnvD.own_lst (E : EnvD K H0 H σ Γ A) {b : Addr} (h : IsOwn Γ A b) : H0 b = none ∧ ∃ vs, H b = some (.lst vs) := by
  obtain ⟨j, xs, h, e⟩ := h
  obtain ⟨_, n, vs, s, _⟩ := E.ow h
  rw [e] at s n
  exact ⟨n, vs, s⟩
/-- a list to be read -/
def IsL : D → List T → Prop
  | .l xs, ys => xs = ys
  | .own xs, ys => xs = ys
  | _, _ => False
theorem EnvD.lv {i : Nat} {d : D} {xs : List T} (E : EnvD K H0 H σ Γ A) (h : Γ[i]? = some d) (hd : IsL d xs) : ∃ b vs, σ[i]? = some (some (.ref b)) ∧ SqL K H b vs ∧ Rps K H vs xs := by
  cases d with
  | no => exact hd.elim
  | t x => exact hd.elim
  | rf b => exact hd.elim
  | ll b => exact hd.elim
  | l ys =>
    have q := E.sl i _ h
    cases hd
    cases e : σ[i]? with
    | none => rw [e] at q; exact q.elim
    | some o => cases o with
      | none => rw [e] at q; exact q.elim
      | some v =>
        rw [e] at q
        obtain ⟨b, vs, e1, s, _, r⟩ := q
        rw [e1]
        exact ⟨b, vs, rfl, s, r⟩
  | own ys =>
    cases hd
    obtain ⟨e, _, vs, s, r⟩ := E.ow h
    exact ⟨_, vs, e, .of s, r⟩
/-- a slot is given another word, that is no own list -/
theorem EnvD.put (E : EnvD K H0 H σ Γ A) {k : Nat} {o : Option V} {d : D} (hd : ∀ zs, d ≠ .own zs) (h : Sl K H0 H (IsOwn (Γ.set k d) A) (A k) (some o) d) : EnvD K H0 H (σ.set k o) (Γ.set k d) A := by
  refine ⟨E.same, by rw [List.length_set, List.length_set, E.len], fun i d' hi => ?_, fun i j xs ys hi hj n => E.ne i j xs ys (own_of_set hd hi) (own_of_set hd hj) n⟩
  by_cases e : k = i
  · subst e
    by_cases hk : k < Γ.length
    · rw [List.getElem?_set_self hk] at hi
      cases hi
      rw [List.getElem?_set_self (by rw [E.len]; exact hk)]
      exact h
    · rw [List.getElem?_eq_none (by rw [List.length_set]; omega)] at hi
      cases hi
  · rw [List.getElem?_set_ne e] at hi
    rw [List.getElem?_set_ne e]
    exact (E.sl i d' hi).mono (Imm.of_same (Same.refl H)) (fun _ _ q _ => q) (fun _ _ _ z => .inl (z.of_set hd)) (fun _ _ _ q => q)
/-- forget a slot -/
theorem EnvD.wipe1 (E : EnvD K H0 H σ Γ A) (k : Nat) : EnvD K H0 H (σ.set k none) (Γ.set k .no) A := E.put (fun _ z => nomatch z) True.intro
def wipeD (Γ : List D) : List Nat → List D
  | [] => Γ
  | k :: ks => (wipeD Γ ks).set k .no
theorem EnvD.wipe (E : EnvD K H0 H σ Γ A) : ∀ ks : List Nat, EnvD K H0 H (wipe σ ks) (wipeD Γ ks) A
  | [] => E
  | k :: ks => (EnvD.wipe E ks).wipe1 k
/-- a slot is given data -/
theorem EnvD.setT (E : EnvD K H0 H σ Γ A) {k : Nat} {v : V} {x : T} (h : Rp K H v x) : EnvD K H0 H (σ.set k (some v)) (Γ.set k (.t x)) A := E.put (fun _ z => nomatch z) h
/-- an own list is only read from here on -/
theorem EnvD.freeze (E : EnvD K H0 H σ Γ A) {k : Nat} {xs : List T} (h : Γ[k]? = some (.own xs)) : EnvD K H0 H σ (Γ.set k (.l xs)) A := by
  obtain ⟨e, n, vs, s, r⟩ := E.ow h
  have q := E.put (k := k) (o := some (.ref (A k))) (d := .l xs) (fun _ z => nomatch z) ⟨A k, vs, rfl, .of s, fun ⟨j, ys, hj, ej⟩ => by
    by_cases z : k = j
    · subst z
      rw [List.getElem?_set_self (List.getElem?_eq_some_iff.mp h).1] at hj
      cases hj
    · rw [List.getElem?_set_ne z] at hj
      exact absurd ej.symm (E.ne k j xs ys h hj z), r⟩
  have z : σ.set k (some (.ref (A k))) = σ := by
    apply List.ext_getElem?
    intro j
    by_cases z : k = j
    · subst z
      rw [List.getElem?_set_self (List.getElem?_eq_some_iff.mp e).1, e]
    · rw [List.getElem?_set_ne z]
  rw [z] at q
  exact q
/-- a slot is given a new list -/
theorem EnvD.setL {H1 : Hp} (E : EnvD K H0 H σ Γ A) (s : Same H H1) {k : Nat} {p : Addr} {vs : List V} {xs : List T} (hp : H p = none) (h1 : H1 p = some (.lst vs)) (r : Rps K H1 vs xs) :
    EnvD K H0 H1 (σ.set k (some (.ref p))) (Γ.set k (.own xs)) (fun i => if i = k then p else A i) := by
  have hn : ∀ i ys, Γ[i]? = some (.own ys) → A i ≠ p := fun i ys h z => by
    obtain ⟨_, _, vs, q, _⟩ := E.ow h
    rw [z, hp] at q
    cases q
  have ow' : ∀ b, IsOwn (Γ.set k (.own xs)) (fun i => if i = k then p else A i) b → IsOwn Γ A b ∨ H b = none := fun b ⟨j, ys, hj, e⟩ => by
    by_cases ej : j = k
    · have e' : (if j = k then p else A j) = b := e
      rw [if_pos ej] at e'
      exact .inr (e' ▸ hp)
    · have e' : (if j = k then p else A j) = b := e
      rw [if_neg ej] at e'
      rw [List.getElem?_set_ne (fun z => ej z.symm)] at hj
      exact .inl ⟨j, ys, hj, e'⟩
  refine ⟨E.same.trans s, by rw [List.length_set, List.length_set, E.len], fun i d hi => ?_, fun i j ys zs hi hj n => ?_⟩
  · by_cases e : k = i
    · subst e
      by_cases hk : k < Γ.length
      · rw [List.getElem?_set_self hk] at hi
        cases hi
        rw [List.getElem?_set_self (by rw [E.len]; exact hk), if_pos rfl]
        exact ⟨rfl, E.same.free hp, vs, h1, r⟩
      · rw [List.getElem?_eq_none (by rw [List.length_set]; omega)] at hi
        cases hi
    · rw [List.getElem?_set_ne e] at hi
      rw [List.getElem?_set_ne e, if_neg (fun z => e z.symm)]
      exact (E.sl i d hi).mono (Imm.of_same s) (fun _ _ q _ => s.seq q) (fun b _ _ z => ow' b z) (fun _ _ _ q => s _ _ q)
  · have f : ∀ {i : Nat} {ys : List T}, i ≠ k → (Γ.set k (.own xs))[i]? = some (.own ys) → Γ[i]? = some (.own ys) := fun {i ys} e h => by
      rw [List.getElem?_set_ne (fun z => e z.symm)] at h
      exact h
    show (if i = k then p else A i) ≠ (if j = k then p else A j)
    by_cases ei : i = k
    · rw [if_pos ei, if_neg (fun z => n (ei.trans z.symm))]
      exact (hn j zs (f (fun z => n (ei.trans z.symm)) hj)).symm
    · rw [if_neg ei]
      by_cases ej : j = k
      · rw [if_pos ej]
        exact hn i ys (f ei hi)
      · rw [if_neg ej]
        exact E.ne i j ys zs (f ei hi) (f ej hj) n
/-- a list of the frame's own is changed -/
theorem EnvD.chg (E : EnvD K H0 H σ Γ A) {k : Nat} {xs ys : List T} {ws : List V} (h : Γ[k]? = some (.own xs)) (r : Rps K H ws ys) : EnvD K H0 (upd H (A k) (.lst ws)) σ (Γ.set k (.own ys)) A := by
  obtain ⟨e1, n1, vs, s1, r1⟩ := E.ow h
  have m : Imm H (upd H (A k) (.lst ws)) := Imm.of_lst s1
  have kl : k < Γ.length := (List.getElem?_eq_some_iff.mp h).1
  refine ⟨fun b o q => ?_, by rw [List.length_set, E.len], fun i d hi => ?_, fun i j us zs hi hj n => ?_⟩
  · rw [upd_ne (ne_of_none q n1)]
    exact E.same b o q
  · by_cases e : k = i
    · subst e
      rw [List.getElem?_set_self kl] at hi
      cases hi
      rw [e1]
      exact ⟨rfl, n1, ws, upd_same, r.mono m⟩
    · rw [List.getElem?_set_ne e] at hi
      refine (E.sl i d hi).mono m (fun b us q z => ?_) (fun b _ _ z => .inl (z.of_chg h)) fun us vs z q => ?_
      · have nb : b ≠ A k := fun z' => z ⟨k, xs, h, z'.symm⟩
        rcases q with (q | ⟨o, q⟩) | q
        · exact .inl (.inl (by rw [upd_ne nb]; exact q))
        · exact .inl (.inr ⟨o, by rw [upd_ne nb]; exact q⟩)
        · exact .inr q
      · subst z
        rw [upd_ne (E.ne i k us xs hi h (fun z => e z.symm))]
        exact q
  · have f : ∀ {i : Nat} {us : List T}, (Γ.set k (.own ys))[i]? = some (.own us) → ∃ us', Γ[i]? = some (.own us') := fun {i us} q => by
      by_cases e : k = i
      · subst e; exact ⟨_, h⟩
      · rw [List.getElem?_set_ne e] at q; exact ⟨_, q⟩
    obtain ⟨u1, q1⟩ := f hi
    obtain ⟨u2, q2⟩ := f hj
    exact E.ne i j u1 u2 q1 q2 n

theorem Go.trans {Γ1 Γ2 : List D} {A1 A2 : Nat → Addr} {H1 H2 : Hp} (a : Go Γ A H Γ1 A1 H1) (b : Go Γ1 A1 H1 Γ2 A2 H2) : Go Γ A H Γ2 A2 H2 := by
  refine ⟨fun c o e n => b.kp c o (a.kp c o e n) fun z => ?_, fun c z => ?_⟩
  · rcases a.ow c z with q | q
    · exact n q
    · rw [e] at q; cases q
  · rcases b.ow c z with q | q
    · exact a.ow c q
    · by_cases n : IsOwn Γ A c
      · exact .inl n
      · cases e : H c with
        | none => exact .inr rfl
        | some o => rw [a.kp c o e n] at q; cases q
theorem Go.of_same (s : Same H H') : Go Γ A H Γ A H' := ⟨fun b o e _ => s b o e, fun b z => .inl z⟩
theorem Go.same_then {Γ2 : List D} {A2 : Nat → Addr} {H1 H2 : Hp} (s : Same H H1) (b : Go Γ A H1 Γ2 A2 H2) : Go Γ A H Γ2 A2 H2 := (Go.of_same s).trans b
theorem Go.put {k : Nat} {d : D} (hd : ∀ zs, d ≠ .own zs) : Go Γ A H (Γ.set k d) A H := ⟨fun b o e _ => e, fun b z => .inl (z.of_set hd)⟩
theorem Go.setT {k : Nat} {x : T} : Go Γ A H (Γ.set k (.t x)) A H := Go.put fun _ z => nomatch z
theorem Go.setL {k : Nat} {p : Addr} {xs : List T} {H1 : Hp} (s : Same H H1) (hp : H p = none) : Go Γ A H (Γ.set k (.own xs)) (fun i => if i = k then p else A i) H1 := by
  refine ⟨fun b o e _ => s b o e, fun b hb => ?_⟩
  obtain ⟨j, ys, h, e⟩ := hb
  have e' : (if j = k then p else A j) = b := e
  by_cases ej : j = k
  · rw [if_pos ej] at e'
    exact .inr (e' ▸ hp)
  · rw [if_neg ej] at e'
    rw [List.getElem?_set_ne (fun z => ej z.symm)] at h
    exact .inl ⟨j, ys, h, e'⟩
theorem Go.chg {k : Nat} {xs ys : List T} {o : HO} (h : Γ[k]? = some (.own xs)) : Go Γ A H (Γ.set k (.own ys)) A (upd H (A k) o) := by
  refine ⟨fun b o e n => ?_, fun b z => .inl (z.of_chg h)⟩
  rw [upd_ne (fun z => n ⟨k, xs, h, z.symm⟩)]
  exact e
theorem Go.imm {Γ' : List D} {A' : Nat → Addr} (g : Go Γ A H Γ' A' H') (E : EnvD K H0 H σ Γ A) : Imm H H' := by
  have f : ∀ b o, H b = some o → (∀ xs, o ≠ .lst xs) → H' b = some o := fun b o e n => g.kp b o e fun z => by
    obtain ⟨_, ws, w⟩ := E.own_lst z
    rw [e] at w
    exact n ws (Option.some.inj w)
  exact ⟨fun a vs h => by
    rcases h with h | ⟨o, h⟩
    · exact .inl (f _ _ h fun _ z => nomatch z)
    · exact .inr ⟨o, f _ _ h fun _ z => nomatch z⟩, fun a C dx fs h => f _ _ h fun _ z => nomatch z⟩
theorem Go.sqT {Γ' : List D} {A' : Nat → Addr} (g : Go Γ A H Γ' A' H') (E : EnvD K H0 H σ Γ A) {b : Addr} {vs : List V} (h : SqT K H b vs) : SqT K H' b vs := (g.imm E).sqT h
theorem Go.sqL {Γ' : List D} {A' : Nat → Addr} (g : Go Γ A H Γ' A' H') {b : Addr} {vs : List V} (h : SqL K H b vs) (n : IsOwn Γ A b → ∀ H', SqL K H' b vs) : SqL K H' b vs := by
  by_cases z : IsOwn Γ A b
  · exact n z H'
  · rcases h with (h | ⟨o, h⟩) | h
    · exact .inl (.inl (g.kp _ _ h z))
    · exact .inl (.inr ⟨o, g.kp _ _ h z⟩)
    · exact .inr h
end
end Cz

namespace Cz
open PySem PySem.Spec PyProof.Rows L2

/-! ### arguments and results -/
def Arg (K : PySem.W.Frag) (H : Hp) : V → D → Prop
  | v, .t x => Rp K H v x
  | v, .l xs => ∃ b vs, v = .ref b ∧ SqL K H b vs ∧ Rps K H vs xs
  | _, _ => False
inductive Args (K : PySem.W.Frag) (H : Hp) : List V → List D → Prop
  | nil : Args K H [] []
  | cons {v : V} {vs : List V} {d : D} {ds : List D} : Arg K H v d → Args K H vs ds → Args K H (v :: vs) (d :: ds)
def Res (K : PySem.W.Frag) (H H' : Hp) : V → D → Prop
  | v, .t x => Rp K H' v x
  | v, .l xs => ∃ p vs, v = .ref p ∧ H p = none ∧ H' p = some (.lst vs) ∧ Rps K H' vs xs
  | v, .ll xss => ∃ x xs a w p vs, xss = [[x], xs] ∧ v = .ref a ∧ SqT K H' a [w, .ref p] ∧ H p = none ∧ H' p = some (.lst vs) ∧ Rps K H' vs xs ∧ Rp K H' w x
  | _, _ => False
theorem Arg.mono {K : PySem.W.Frag} {H H' : Hp} (s : Same H H') {v : V} {d : D} (h : Arg K H v d) : Arg K H' v d := by
  cases d with
  | t x => exact Rp.mono (Imm.of_same s) h
  | l xs => obtain ⟨b, vs, e, q, r⟩ := h; exact ⟨b, vs, e, s.seq q, r.mono (Imm.of_same s)⟩
  | no => exact h
  | own _ => exact h
  | rf _ => exact h
  | ll _ => exact h
theorem Args.mono {K : PySem.W.Frag} {H H' : Hp} (s : Same H H') : ∀ {vs : List V} {ds : List D}, Args K H vs ds → Args K H' vs ds
  | _, _, .nil => .nil
  | _, _, .cons h r => .cons (h.mono s) (Args.mono s r)
theorem Args.length {K : PySem.W.Frag} {H : Hp} : ∀ {vs : List V} {ds : List D}, Args K H vs ds → vs.length = ds.length
  | _, _, .nil => rfl
  | _, _, .cons _ r => by rw [List.length_cons, List.length_cons, Args.length r]
theorem Args.append {K : PySem.W.Frag} {H : Hp} : ∀ {vs ws : List V} {ds es : List D}, Args K H vs ds → Args K H ws es → Args K H (vs ++ ws) (ds ++ es)
  | _, _, _, _, .nil, s => s
  | _, _, _, _, .cons h r, s => .cons h (Args.append r s)

/-! ### judgements -/
section
variable (K : PySem.W.Frag)
/-- an expression gives the data x, and changes nothing -/
def Ev (t : TE) (Γ : List D) (x : T) : Prop := ∀ (H0 : Hp) (A : Nat → Addr) (σ : L2.St) (H : Hp) (Q : VK), EnvD K H0 H σ Γ A → (∀ v H', Same H H' → Rp K H' v x → Q v H') → t σ H Q
/-- .. a list to be read -/
def EvL (t : TE) (Γ : List D) (xs : List T) : Prop := ∀ (H0 : Hp) (A : Nat → Addr) (σ : L2.St) (H : Hp) (Q : VK), EnvD K H0 H σ Γ A → (∀ b vs H', Same H H' → SqL K H' b vs → Rps K H' vs xs → Q (.ref b) H') → t σ H Q
/-- .. a new list -/
def EvF (t : TE) (Γ : List D) (xs : List T) : Prop := ∀ (H0 : Hp) (A : Nat → Addr) (σ : L2.St) (H : Hp) (Q : VK), EnvD K H0 H σ Γ A → (∀ p vs H', H p = none → Same H H' → H' p = some (.lst vs) → Rps K H' vs xs → Q (.ref p) H') → t σ H Q
/-- a test -/
def EvB (t : TT) (Γ : List D) (b : Bool) : Prop := ∀ (H0 : Hp) (A : Nat → Addr) (σ : L2.St) (H : Hp) (Q : Bool → Hp → Prop), EnvD K H0 H σ Γ A → (∀ H', Same H H' → Q b H') → t σ H Q
/-- arguments -/
def EvA (t : TA) (Γ : List D) (ds : List D) : Prop := ∀ (H0 : Hp) (A : Nat → Addr) (σ : L2.St) (H : Hp) (Q : List V → Hp → Prop), EnvD K H0 H σ Γ A → (∀ vs H', Same H H' → Args K H' vs ds → Q vs H') → t σ H Q
/-- an expression that raises the class at C -/
def EvE (W : WX) (t : TE) (Γ : List D) (C : Addr) : Prop := ∀ (H0 : Hp) (A : Nat → Addr) (σ : L2.St) (H : Hp) (Q : VK), EnvD K H0 H σ Γ A → (∀ H', Same H H' → W (.ref C) none σ H') → t σ H Q
/-- a target is given data -/
def Gd (g : TG) (Γ : List D) (x : T) (Γ' : List D) : Prop := ∀ (H0 : Hp) (A : Nat → Addr) (σ : L2.St) (H : Hp) (v : V) (Q : L2.St → Hp → Prop), EnvD K H0 H σ Γ A → Rp K H v x → (∀ σ', EnvD K H0 H σ' Γ' A → Go Γ A H Γ' A H → Q σ' H) → g v σ H Q
def Gds (g : TGs) (Γ : List D) (xs : List T) (Γ' : List D) : Prop := ∀ (H0 : Hp) (A : Nat → Addr) (σ : L2.St) (H : Hp) (vs : List V) (Q : L2.St → Hp → Prop), EnvD K H0 H σ Γ A → Rps K H vs xs → (∀ σ', EnvD K H0 H σ' Γ' A → Go Γ A H Γ' A H → Q σ' H) → g vs σ H Q
/-- what is wanted behind a statement -/
structure Po where
  nx : List D → Prop
  rt : D → Prop
  bk : List D → Prop := fun _ => False
  ct : List D → Prop := fun _ => False
  er : Addr → List D → Prop := fun _ _ => False
structure Meet (W : WX) (H0 : Hp) (Γ : List D) (A : Nat → Addr) (H : Hp) (P : Po) (E : Ends) : Prop where
  nx : ∀ Γ' A' σ H', P.nx Γ' → EnvD K H0 H' σ Γ' A' → Go Γ A H Γ' A' H' → E.nx σ H'
  rt : ∀ r v H', P.rt r → Res K H0 H' v r → Same H0 H' → E.rt v H'
  bk : ∀ Γ' A' σ H', P.bk Γ' → EnvD K H0 H' σ Γ' A' → Go Γ A H Γ' A' H' → E.bk σ H'
  ct : ∀ Γ' A' σ H', P.ct Γ' → EnvD K H0 H' σ Γ' A' → Go Γ A H Γ' A' H' → E.ct σ H'
  er : ∀ C Γ' A' σ H', P.er C Γ' → EnvD K H0 H' σ Γ' A' → Go Γ A H Γ' A' H' → W (.ref C) none σ H'
def Sv (W : WX) (t : TS) (Γ : List D) (P : Po) : Prop := ∀ (H0 : Hp) (A : Nat → Addr) (σ : L2.St) (H : Hp) (E : Ends), EnvD K H0 H σ Γ A → Meet K W H0 Γ A H P E → t E σ H
end

section
variable {K : PySem.W.Frag} {Γ : List D} {W : WX}
/-- from a state a little later: values were made -/
theorem Meet.later {H0 H H1 : Hp} {A : Nat → Addr} {P : Po} {E : Ends} (M : Meet K W H0 Γ A H P E) (s : Same H H1) : Meet K W H0 Γ A H1 P E :=
  ⟨fun G B σ H' p e g => M.nx G B σ H' p e (g.same_then s), M.rt, fun G B σ H' p e g => M.bk G B σ H' p e (g.same_then s), fun G B σ H' p e g => M.ct G B σ H' p e (g.same_then s), fun C G B σ H' p e g => M.er C G B σ H' p e (g.same_then s)⟩
theorem Meet.after {H0 H H1 : Hp} {A A1 : Nat → Addr} {Γ1 : List D} {P : Po} {E : Ends} (M : Meet K W H0 Γ A H P E) (s : Go Γ A H Γ1 A1 H1) : Meet K W H0 Γ1 A1 H1 P E :=
  ⟨fun G B σ H' p e g => M.nx G B σ H' p e (s.trans g), M.rt, fun G B σ H' p e g => M.bk G B σ H' p e (s.trans g), fun G B σ H' p e g => M.ct G B σ H' p e (s.trans g), fun C G B σ H' p e g => M.er C G B σ H' p e (s.trans g)⟩

/-! ### names and constants -/
theorem ev_var {i : Nat} {x : T} (h : Γ[i]? = some (.t x)) : Ev K (tVar i) Γ x := fun H0 A σ H Q E q => by
  obtain ⟨v, e, r⟩ := E.tv h
  exact ⟨v, e, q v H (Same.refl H) r⟩
theorem evl_var {i : Nat} {d : D} {xs : List T} (h : Γ[i]? = some d) (hd : IsL d xs) : EvL K (tVar i) Γ xs := fun H0 A σ H Q E q => by
  obtain ⟨b, vs, e, s, r⟩ := E.lv h hd
  exact ⟨.ref b, e, q b vs H (Same.refl H) s r⟩
theorem ev_int {i : Int} : Ev K (tC (.int i)) Γ (.int i) := fun H0 A σ H Q E q => q _ H (Same.refl H) (.int i)
theorem ev_bl {b : Bool} : Ev K (tC (.bl b)) Γ (.bl b) := fun H0 A σ H Q E q => q _ H (Same.refl H) (.bl b)
theorem ev_non : Ev K (tC .non) Γ .non := fun H0 A σ H Q E q => q _ H (Same.refl H) .non
theorem ev_str {x : Str} : Ev K (tC (.str x)) Γ (.str x) := fun H0 A σ H Q E q => q _ H (Same.refl H) (.str x)
/-- a tuple of the module's -/
theorem ev_kt {a : Addr} {vs : List V} {ts : List T} (h : ∀ H, SqT K H a vs) (r : ∀ H, Rps K H vs ts) : Ev K (tC (.ref a)) Γ (.tup ts) := fun H0 A σ H Q E q => q _ H (Same.refl H) (.tup (h H) (r H))
theorem ev_eq {t : TE} {x y : T} (h : Ev K t Γ x) (e : x = y) : Ev K t Γ y := e ▸ h
theorem evf_eq {t : TE} {x y : List T} (h : EvF K t Γ x) (e : x = y) : EvF K t Γ y := e ▸ h
theorem evl_eq {t : TE} {x y : List T} (h : EvL K t Γ x) (e : x = y) : EvL K t Γ y := e ▸ h
theorem evb_eq {t : TT} {x y : Bool} (h : EvB K t Γ x) (e : x = y) : EvB K t Γ y := e ▸ h
/-- a list to be read, by its slot -/
def listAt (Γ : List D) (i : Nat) : Option (List T) := match Γ[i]? with
  | some (.l xs) => some xs
  | some (.own xs) => some xs
  | _ => none
theorem evl_v {i : Nat} {xs : List T} (h : listAt Γ i = some xs) : EvL K (tVar i) Γ xs := by
  unfold listAt at h
  split at h
  · rename_i ys e
    cases h
    exact evl_var e rfl
  · rename_i ys e
    cases h
    exact evl_var e rfl
  · cases h
theorem evl_f {t : TE} {xs : List T} (h : EvF K t Γ xs) : EvL K t Γ xs := fun H0 A σ H Q E q => h H0 A σ H Q E fun p vs H' _ s e r => q p vs H' s (.of e) r

/-! ### two operands -/
theorem ev_op {r : R2} {ta tb : TE} {x y z : T} (ha : Ev K ta Γ x) (hb : Ev K tb Γ y)
    (h : ∀ v w H (Q : VK), Rp K H v x → Rp K H w y → (∀ u H', Same H H' → Rp K H' u z → Q u H') → r v w H Q) : Ev K (tOp r ta tb) Γ z := fun H0 A σ H Q E q =>
  ha H0 A σ H _ E fun v H1 s1 r1 => hb H0 A σ H1 _ (E.mono s1) fun w H2 s2 r2 => h v w H2 Q (Rp.mono (Imm.of_same s2) r1) r2 fun u H3 s3 r3 => q u H3 (s1.trans (s2.trans s3)) r3
theorem ev_rI0 {g : Int → Int → V} {f : Int → Int → T} {ta tb : TE} {i j : Int} (hg : ∀ H i j, Rp K H (g i j) (f i j)) (ha : Ev K ta Γ (.int i)) (hb : Ev K tb Γ (.int j)) : Ev K (tOp (rI0 g) ta tb) Γ (f i j) :=
  ev_op ha hb fun v w H Q r1 r2 q => by
    cases r1
    cases r2
    exact ⟨i, j, rfl, rfl, q _ H (Same.refl H) (hg H i j)⟩
theorem ev_rI {C : Int → Int → Prop} {g : Int → Int → V} {f : Int → Int → T} {ta tb : TE} {i j : Int} (hg : ∀ H i j, Rp K H (g i j) (f i j)) (hC : C i j) (ha : Ev K ta Γ (.int i)) (hb : Ev K tb Γ (.int j)) : Ev K (tOp (rI C g) ta tb) Γ (f i j) :=
  ev_op ha hb fun v w H Q r1 r2 q => by
    cases r1
    cases r2
    exact ⟨i, j, rfl, rfl, hC, q _ H (Same.refl H) (hg H i j)⟩
variable {ta tb : TE} {i j : Int}
theorem ev_add (ha : Ev K ta Γ (.int i)) (hb : Ev K tb Γ (.int j)) : Ev K (tOp (rI0 fun i j => .int (i + j)) ta tb) Γ (.int (i + j)) := ev_rI0 (f := fun i j => .int (i + j)) (fun _ _ _ => .int _) ha hb
theorem ev_sub (ha : Ev K ta Γ (.int i)) (hb : Ev K tb Γ (.int j)) : Ev K (tOp (rI0 fun i j => .int (i - j)) ta tb) Γ (.int (i - j)) := ev_rI0 (f := fun i j => .int (i - j)) (fun _ _ _ => .int _) ha hb
/-- |x| < 2 ^ n -/
def Sm (n : Nat) (x : Int) : Prop := x.natAbs < 2 ^ n
theorem Sm.mono {n m : Nat} {x : Int} (h : Sm n x) (k : n ≤ m) : Sm m x := Nat.lt_of_lt_of_le h (Nat.pow_le_pow_right (by decide) k)
theorem Sm.add {n m : Nat} {x y : Int} (h : Sm n x) (k : Sm m y) : Sm (max n m + 1) (x + y) := by
  have h1 := h.mono (Nat.le_max_left n m)
  have h2 := k.mono (Nat.le_max_right n m)
  unfold Sm at *
  rw [Nat.pow_succ]
  omega
theorem Sm.neg {n : Nat} {x : Int} (h : Sm n x) : Sm n (-x) := by
  unfold Sm at *
  omega
theorem Sm.sub {n m : Nat} {x y : Int} (h : Sm n x) (k : Sm m y) : Sm (max n m + 1) (x - y) := by
  rw [Int.sub_eq_add_neg]
  exact h.add k.neg
theorem Sm.mul {n m : Nat} {x y : Int} (h : Sm n x) (k : Sm m y) : Sm (n + m) (x * y) := wide_lt h k
theorem Sm.mulok {n m : Nat} {x y : Int} (h : Sm n x) (k : Sm m y) (z : n + m + 2 ≤ 1000000) : CMulW x y :=
  wide_mul (h.mono (Nat.le_succ n)) (k.mono (Nat.le_succ m)) (Nat.succ_pos _) (Nat.succ_pos _) (by omega)
theorem ev_mul (ha : Ev K ta Γ (.int i)) (hb : Ev K tb Γ (.int j)) (hC : CMulW i j) : Ev K (tOp (rI CMulW fun i j => .int (i * j)) ta tb) Γ (.int (i * j)) := ev_rI (f := fun i j => .int (i * j)) (fun _ _ _ => .int _) hC ha hb
theorem ev_fdiv (ha : Ev K ta Γ (.int i)) (hb : Ev K tb Γ (.int j)) (hC : CDiv i j) : Ev K (tOp (rI CDiv fun i j => .int (i / j)) ta tb) Γ (.int (i / j)) := ev_rI (f := fun i j => .int (i / j)) (fun _ _ _ => .int _) hC ha hb
theorem ev_fdivW (ha : Ev K ta Γ (.int i)) (hb : Ev K tb Γ (.int j)) (hC : CDivW i j) : Ev K (tOp (rI CDivW fun i j => .int (i / j)) ta tb) Γ (.int (i / j)) := ev_rI (f := fun i j => .int (i / j)) (fun _ _ _ => .int _) hC ha hb
theorem ev_fdivN (ha : Ev K ta Γ (.int i)) (hb : Ev K tb Γ (.int j)) (hC : CDivN i j) : Ev K (tOp (rI CDivN fun i j => .int (i.fdiv j)) ta tb) Γ (.int (i.fdiv j)) := ev_rI (f := fun i j => .int (i.fdiv j)) (fun _ _ _ => .int _) hC ha hb
theorem ev_mod (ha : Ev K ta Γ (.int i)) (hb : Ev K tb Γ (.int j)) (hC : 0 < j) : Ev K (tOp (rI (fun _ j => 0 < j) fun i j => .int (i % j)) ta tb) Γ (.int (i % j)) := ev_rI (C := fun _ j => 0 < j) (f := fun i j => .int (i % j)) (fun _ _ _ => .int _) hC ha hb
theorem ev_modN (ha : Ev K ta Γ (.int i)) (hb : Ev K tb Γ (.int j)) (hC : j ≠ 0) : Ev K (tOp (rI (fun _ j => j ≠ 0) fun i j => .int (i.fmod j)) ta tb) Γ (.int (i.fmod j)) := ev_rI (C := fun _ j => j ≠ 0) (f := fun i j => .int (i.fmod j)) (fun _ _ _ => .int _) hC ha hb
theorem ev_pow (ha : Ev K ta Γ (.int i)) (hb : Ev K tb Γ (.int j)) (hC : CPow i j) : Ev K (tOp (rI CPow fun i j => .int (i ^ j.toNat)) ta tb) Γ (.int (i ^ j.toNat)) := ev_rI (f := fun i j => .int (i ^ j.toNat)) (fun _ _ _ => .int _) hC ha hb
theorem ev_neg (ha : Ev K ta Γ (.int i)) : Ev K (tUn (rU fun i => .int (-i)) ta) Γ (.int (-i)) := fun H0 A σ H Q E q =>
  ha H0 A σ H _ E fun v H1 s1 r1 => by
    cases r1
    exact ⟨i, rfl, q _ H1 s1 (.int _)⟩
theorem ev_lt (ha : Ev K ta Γ (.int i)) (hb : Ev K tb Γ (.int j)) : Ev K (tOp (rI0 fun i j => .bl (decide (i < j))) ta tb) Γ (.bl (decide (i < j))) := ev_rI0 (f := fun i j => .bl (decide (i < j))) (fun _ _ _ => .bl _) ha hb
theorem ev_le (ha : Ev K ta Γ (.int i)) (hb : Ev K tb Γ (.int j)) : Ev K (tOp (rI0 fun i j => .bl (decide (i ≤ j))) ta tb) Γ (.bl (decide (i ≤ j))) := ev_rI0 (f := fun i j => .bl (decide (i ≤ j))) (fun _ _ _ => .bl _) ha hb
theorem ev_gt (ha : Ev K ta Γ (.int i)) (hb : Ev K tb Γ (.int j)) : Ev K (tOp (rI0 fun i j => .bl (decide (j < i))) ta tb) Γ (.bl (decide (j < i))) := ev_rI0 (f := fun i j => .bl (decide (j < i))) (fun _ _ _ => .bl _) ha hb
theorem ev_ge (ha : Ev K ta Γ (.int i)) (hb : Ev K tb Γ (.int j)) : Ev K (tOp (rI0 fun i j => .bl (decide (j ≤ i))) ta tb) Γ (.bl (decide (j ≤ i))) := ev_rI0 (f := fun i j => .bl (decide (j ≤ i))) (fun _ _ _ => .bl _) ha hb
theorem dec_vint (i j : Int) : decide (V.int i = V.int j) = decide (i = j) := by rw [dec_int, Bool.beq_eq_decide_eq]
theorem ev_eqI (ha : Ev K ta Γ (.int i)) (hb : Ev K tb Γ (.int j)) : Ev K (tOp rEq ta tb) Γ (.bl (decide (i = j))) :=
  ev_op ha hb fun v w H Q r1 r2 q => by
    cases r1
    cases r2
    refine ⟨rfl, ?_⟩
    rw [dec_vint]
    exact q _ H (Same.refl H) (.bl _)
theorem ev_neI (ha : Ev K ta Γ (.int i)) (hb : Ev K tb Γ (.int j)) : Ev K (tOp rNe ta tb) Γ (.bl (!decide (i = j))) :=
  ev_op ha hb fun v w H Q r1 r2 q => by
    cases r1
    cases r2
    refine ⟨rfl, ?_⟩
    rw [dec_vint]
    exact q _ H (Same.refl H) (.bl _)
theorem ev_eqS {x y : Str} (ha : Ev K ta Γ (.str x)) (hb : Ev K tb Γ (.str y)) : Ev K (tOp rEq ta tb) Γ (.bl (decide (x = y))) :=
  ev_op ha hb fun v w H Q r1 r2 q => by
    cases r1
    cases r2
    refine ⟨rfl, ?_⟩
    rw [dec_str, Bool.beq_eq_decide_eq]
    exact q _ H (Same.refl H) (.bl _)
theorem ev_neS {x y : Str} (ha : Ev K ta Γ (.str x)) (hb : Ev K tb Γ (.str y)) : Ev K (tOp rNe ta tb) Γ (.bl (!decide (x = y))) :=
  ev_op ha hb fun v w H Q r1 r2 q => by
    cases r1
    cases r2
    refine ⟨rfl, ?_⟩
    rw [dec_str, Bool.beq_eq_decide_eq]
    exact q _ H (Same.refl H) (.bl _)
/-- is None of data -/
def isNon : T → Bool
  | .non => true
  | _ => false
theorem Rp.isNon {H : Hp} {v : V} {x : T} (r : Rp K H v x) : decide (v = .non) = Cz.isNon x := by
  cases r <;> first | exact decide_eq_true rfl | exact decide_eq_false (fun z => nomatch z)
theorem ev_isN {x : T} (ha : Ev K ta Γ x) : Ev K (tOp (fun x y H Q => y = .non ∧ Q (.bl (decide (x = .non))) H) ta (tC .non)) Γ (.bl (isNon x)) :=
  ev_op ha ev_non fun v w H Q r1 r2 q => by
    cases r2
    refine ⟨rfl, ?_⟩
    rw [r1.isNon]
    exact q _ H (Same.refl H) (.bl _)
theorem ev_notN {x : T} (ha : Ev K ta Γ x) : Ev K (tOp (fun x y H Q => y = .non ∧ Q (.bl (!decide (x = .non))) H) ta (tC .non)) Γ (.bl (!isNon x)) :=
  ev_op ha ev_non fun v w H Q r1 r2 q => by
    cases r2
    refine ⟨rfl, ?_⟩
    rw [r1.isNon]
    exact q _ H (Same.refl H) (.bl _)

/-! ### == of data -/
mutual
def T.py : T → PyData
  | .non => .none
  | .bl b => .bool b
  | .int i => .int i
  | .str x => .str x
  | .tup ts => .tuple (T.pys ts)
  | .obj _ _ _ => .none
def T.pys : List T → List PyData
  | [] => []
  | t :: ts => T.py t :: T.pys ts
end
mutual
/-- no instance within -/
def T.pl : T → Bool
  | .obj _ _ _ => false
  | .tup ts => T.pls ts
  | _ => true
def T.pls : List T → Bool
  | [] => true
  | t :: ts => T.pl t && T.pls ts
end
mutual
theorem Rp.dp {H : Hp} : ∀ {v : V} {x : T}, Rp K H v x → T.pl x = true → Dp K H v (T.py x)
  | _, _, .non, _ => .non
  | _, _, .bl b, _ => .bl b
  | _, _, .int i, _ => .int i
  | _, _, .str x, _ => .str x
  | _, _, .tup h r, p => .tup h (Rps.dps r p)
theorem Rps.dps {H : Hp} : ∀ {vs : List V} {xs : List T}, Rps K H vs xs → T.pls xs = true → DpAll K H vs (T.pys xs)
  | _, _, .nil, _ => .nil
  | _, _, .cons h r, p => .cons (Rp.dp h (Bool.and_eq_true_iff.mp p).1) (Rps.dps r (Bool.and_eq_true_iff.mp p).2)
end
/-- plain data that == may be asked of -/
structure Pl (x : T) : Prop where
  pl : T.pl x = true
  sh : SeqAt.shaped (T.py x) = true
theorem ev_eqD {x y : T} (px : Pl x) (py : Pl y) (ha : Ev K ta Γ x) (hb : Ev K tb Γ y) : Ev K (tOp (rEqD K) ta tb) Γ (.bl (PyData.eqv (T.py x) (T.py y))) :=
  ev_op ha hb fun v w H Q r1 r2 q => ⟨_, _, r1.dp px.pl, r2.dp py.pl, px.sh, py.sh, q _ H (Same.refl H) (.bl _)⟩
theorem ev_neD {x y : T} (px : Pl x) (py : Pl y) (ha : Ev K ta Γ x) (hb : Ev K tb Γ y) : Ev K (tOp (rNeD K) ta tb) Γ (.bl (!PyData.eqv (T.py x) (T.py y))) :=
  ev_op ha hb fun v w H Q r1 r2 q => ⟨_, _, r1.dp px.pl, r2.dp py.pl, px.sh, py.sh, q _ H (Same.refl H) (.bl _)⟩

/-! ### tests -/
theorem evb_test {t : TE} {b : Bool} (h : Ev K t Γ (.bl b)) : EvB K (tTest t) Γ b := fun H0 A σ H Q E q => h H0 A σ H _ E fun v H1 s r => by
  cases r
  exact ⟨b, rfl, q H1 s⟩
theorem evb_val {t : TE} {b : Bool} (h : Ev K t Γ (.bl b)) : EvB K (tB t) Γ b := fun H0 A σ H Q E q => h H0 A σ H _ E fun v H1 s r => by
  cases r
  exact ⟨b, rfl, q H1 s⟩
theorem evb_and {t u : TT} {a b : Bool} (h : EvB K t Γ a) (k : a = true → EvB K u Γ b) (f : a = false → b = false) : EvB K (tAnd t u) Γ b := fun H0 A σ H Q E q => h H0 A σ H _ E fun H1 s => by
  cases a with
  | true => exact iteT (k rfl H0 A σ H1 Q (E.mono s) fun H2 s2 => q H2 (s.trans s2))
  | false => rw [f rfl] at q; exact iteF (q H1 s)
theorem evb_or {t u : TT} {a b : Bool} (h : EvB K t Γ a) (k : a = false → EvB K u Γ b) (f : a = true → b = true) : EvB K (tOr t u) Γ b := fun H0 A σ H Q E q => h H0 A σ H _ E fun H1 s => by
  cases a with
  | false => exact iteF (k rfl H0 A σ H1 Q (E.mono s) fun H2 s2 => q H2 (s.trans s2))
  | true => rw [f rfl] at q; exact iteT (q H1 s)
/-- both sides are asked: the plain forms -/
theorem evb_and2 {t u : TT} {a b : Bool} (h : EvB K t Γ a) (k : EvB K u Γ b) : EvB K (tAnd t u) Γ (a && b) := by
  cases a with
  | true => exact evb_and h (fun _ => k) (fun z => nomatch z)
  | false => exact evb_and h (fun z => nomatch z) (fun _ => rfl)
theorem evb_or2 {t u : TT} {a b : Bool} (h : EvB K t Γ a) (k : EvB K u Γ b) : EvB K (tOr t u) Γ (a || b) := by
  cases a with
  | false => exact evb_or h (fun _ => k) (fun z => nomatch z)
  | true => exact evb_or h (fun z => nomatch z) (fun _ => rfl)
theorem evb_not {t : TT} {a : Bool} (h : EvB K t Γ a) : EvB K (tNot t) Γ (!a) := fun H0 A σ H Q E q => h H0 A σ H _ E fun H1 s => q H1 s
theorem ev_andV {a b : Bool} (h : Ev K ta Γ (.bl a)) (k : a = true → Ev K tb Γ (.bl b)) (f : a = false → b = false) : Ev K (tAndV ta tb) Γ (.bl b) := fun H0 A σ H Q E q => h H0 A σ H _ E fun v H1 s r => by
  cases r
  cases a with
  | true => exact ⟨true, rfl, iteT (k rfl H0 A σ H1 Q (E.mono s) fun v H2 s2 r2 => q v H2 (s.trans s2) r2)⟩
  | false => rw [f rfl] at q; exact ⟨false, rfl, iteF (q _ H1 s (.bl _))⟩
theorem ev_orV {a b : Bool} (h : Ev K ta Γ (.bl a)) (k : a = false → Ev K tb Γ (.bl b)) (f : a = true → b = true) : Ev K (tOrV ta tb) Γ (.bl b) := fun H0 A σ H Q E q => h H0 A σ H _ E fun v H1 s r => by
  cases r
  cases a with
  | false => exact ⟨false, rfl, iteF (k rfl H0 A σ H1 Q (E.mono s) fun v H2 s2 r2 => q v H2 (s.trans s2) r2)⟩
  | true => rw [f rfl] at q; exact ⟨true, rfl, iteT (q _ H1 s (.bl _))⟩
theorem ev_and2 {a b : Bool} (h : Ev K ta Γ (.bl a)) (k : Ev K tb Γ (.bl b)) : Ev K (tAndV ta tb) Γ (.bl (a && b)) := by
  cases a with
  | true => exact ev_andV h (fun _ => k) (fun z => nomatch z)
  | false => exact ev_andV h (fun z => nomatch z) (fun _ => rfl)
theorem ev_or2 {a b : Bool} (h : Ev K ta Γ (.bl a)) (k : Ev K tb Γ (.bl b)) : Ev K (tOrV ta tb) Γ (.bl (a || b)) := by
  cases a with
  | false => exact ev_orV h (fun _ => k) (fun z => nomatch z)
  | true => exact ev_orV h (fun z => nomatch z) (fun _ => rfl)
theorem ev_notV {a : Bool} (h : Ev K ta Γ (.bl a)) : Ev K (tNotV ta) Γ (.bl (!a)) := fun H0 A σ H Q E q => h H0 A σ H _ E fun v H1 s r => by
  cases r
  exact ⟨a, rfl, q _ H1 s (.bl _)⟩
theorem ev_if {t : TT} {c : Bool} {x : T} (h : EvB K t Γ c) (k1 : c = true → Ev K ta Γ x) (k2 : c = false → Ev K tb Γ x) : Ev K (tIf t ta tb) Γ x := fun H0 A σ H Q E q => h H0 A σ H _ E fun H1 s => by
  cases c with
  | true => exact iteT (k1 rfl H0 A σ H1 Q (E.mono s) fun v H2 s2 r2 => q v H2 (s.trans s2) r2)
  | false => exact iteF (k2 rfl H0 A σ H1 Q (E.mono s) fun v H2 s2 r2 => q v H2 (s.trans s2) r2)
/-- a <= b <= c of ints -/
theorem ev_chain {g g' : Int → Int → V} {f f' : Int → Int → Bool} {tc : TE} {k : Int} (hg : ∀ i j, g i j = .bl (f i j)) (hg' : ∀ i j, g' i j = .bl (f' i j)) (ha : Ev K ta Γ (.int i)) (hb : Ev K tb Γ (.int j)) (hc : Ev K tc Γ (.int k)) :
    Ev K (tChain (rI0 g) (rI0 g') ta tb tc) Γ (.bl (f i j && f' j k)) := fun H0 A σ H Q E q =>
  ha H0 A σ H _ E fun v H1 s1 r1 => hb H0 A σ H1 _ (E.mono s1) fun w H2 s2 r2 => by
    cases r1
    cases r2
    refine ⟨i, j, rfl, rfl, f i j, hg i j, ?_⟩
    cases e : f i j with
    | true =>
      rw [e] at q
      refine iteT (hc H0 A σ H2 _ (E.mono (s1.trans s2)) fun u H3 s3 r3 => ?_)
      cases r3
      refine ⟨j, k, rfl, rfl, ?_⟩
      rw [hg']
      exact q _ H3 (s1.trans (s2.trans s3)) (.bl _)
    | false =>
      refine iteF ?_
      rw [e] at q
      exact q _ H2 (s1.trans s2) (.bl _)

/-! ### tuples, lists, their items -/
theorem eva_nil : EvA K tNil Γ [] := fun H0 A σ H Q E q => q [] H (Same.refl H) .nil
theorem eva_t {tr : TA} {x : T} {ds : List D} (ha : Ev K ta Γ x) (hr : EvA K tr Γ ds) : EvA K (tCons ta tr) Γ (.t x :: ds) := fun H0 A σ H Q E q =>
  ha H0 A σ H _ E fun v H1 s1 r1 => hr H0 A σ H1 _ (E.mono s1) fun vs H2 s2 r2 => q (v :: vs) H2 (s1.trans s2) (.cons (Rp.mono (Imm.of_same s2) r1) r2)
theorem eva_l {tr : TA} {xs : List T} {ds : List D} (ha : EvL K ta Γ xs) (hr : EvA K tr Γ ds) : EvA K (tCons ta tr) Γ (.l xs :: ds) := fun H0 A σ H Q E q =>
  ha H0 A σ H _ E fun b ws H1 s1 sq r1 => hr H0 A σ H1 _ (E.mono s1) fun vs H2 s2 r2 => q (.ref b :: vs) H2 (s1.trans s2) (.cons ⟨b, ws, rfl, s2.seq sq, r1.mono (Imm.of_same s2)⟩ r2)
theorem Args.rps {H : Hp} : ∀ {vs : List V} {ts : List T}, Args K H vs (ts.map D.t) → Rps K H vs ts
  | _, [], .nil => .nil
  | _, t :: ts, .cons h r => .cons h (Args.rps r)
theorem same_upd {H : Hp} {p : Addr} {o : HO} (h : H p = none) : Same H (upd H p o) := fun b x e => by
  rw [upd_ne (ne_of_none e h)]
  exact e
theorem ev_tup {t : TA} {ds : List D} (ts : List T) (h : EvA K t Γ ds) (e : ds = ts.map D.t) (z : ts.length ≤ 1000) : Ev K (tTup t) Γ (.tup ts) := fun H0 A σ H Q E q => by
  subst e
  refine h H0 A σ H _ E fun vs H1 s1 r1 => ?_
  have r := r1.rps
  refine ⟨by rw [r.length]; exact Nat.le_of_lt (small1000 z), fun p hp => ?_⟩
  exact q _ _ (s1.trans (same_upd hp)) (.tup (.of upd_same) (r.mono (Imm.of_same (same_upd hp))))
theorem evf_lst {t : TA} {ds : List D} (ts : List T) (h : EvA K t Γ ds) (e : ds = ts.map D.t) (z : ts.length ≤ 1000) : EvF K (tLst t) Γ ts := fun H0 A σ H Q E q => by
  subst e
  refine h H0 A σ H _ E fun vs H1 s1 r1 => ?_
  have r := r1.rps
  refine ⟨by rw [r.length]; exact Nat.le_of_lt (small1000 z), fun p hp => ?_⟩
  exact q p vs _ (s1.free hp) (s1.trans (same_upd hp)) upd_same (r.mono (Imm.of_same (same_upd hp)))
theorem Rps.atI {H : Hp} {vs : List V} {ts : List T} {t : T} (r : Rps K H vs ts) (h : atI ts i = some t) : ∃ v, L2.atI vs i = some v ∧ Rp K H v t := by
  unfold L2.atI at *
  rw [r.length]
  cases e : ixN ts.length i with
  | none => rw [e] at h; cases h
  | some j =>
    rw [e] at h
    exact r.get h
theorem ev_ixT {ts : List T} {t : T} (ha : Ev K ta Γ (.tup ts)) (hb : Ev K tb Γ (.int i)) (h : atI ts i = some t) : Ev K (tOp (rIxT K) ta tb) Γ t :=
  ev_op ha hb fun v w H Q r1 r2 q => by
    cases r1 with
    | tup s r =>
      cases r2
      obtain ⟨v, hv, rv⟩ := r.atI h
      exact ⟨_, _, i, v, rfl, rfl, s, hv, q v H (Same.refl H) rv⟩
theorem ev_ixL {ts : List T} {t : T} (ha : EvL K ta Γ ts) (hb : Ev K tb Γ (.int i)) (h : atI ts i = some t) : Ev K (tOp (rIxL K) ta tb) Γ t := fun H0 A σ H Q E q =>
  ha H0 A σ H _ E fun b vs H1 s1 sq r1 => hb H0 A σ H1 _ (E.mono s1) fun w H2 s2 r2 => by
    cases r2
    obtain ⟨v, hv, rv⟩ := (r1.mono (Imm.of_same s2)).atI h
    exact ⟨_, _, i, v, rfl, rfl, s2.seq sq, hv, q v H2 (s1.trans s2) rv⟩
/-! slices of lists -/
def EvO (K : PySem.W.Frag) (t : TO) (Γ : List D) (o : Option Int) : Prop := ∀ (H0 : Hp) (A : Nat → Addr) (σ : L2.St) (H : Hp) (Q : Option Int → Hp → Prop), EnvD K H0 H σ Γ A → (∀ H', Same H H' → Q o H') → t σ H Q
theorem evo_none : EvO K tNoPart Γ none := fun H0 A σ H Q E q => q H (Same.refl H)
theorem evo_some (h : Ev K ta Γ (.int i)) : EvO K (tPart ta) Γ (some i) := fun H0 A σ H Q E q => h H0 A σ H _ E fun v H1 s r => by
  cases r
  exact ⟨i, rfl, q H1 s⟩
def cutT (xs : List T) (lo hi : Option Int) : List T := (xs.drop (HT.sIx xs.length 0 lo)).take (HT.sIx xs.length xs.length hi - HT.sIx xs.length 0 lo)
theorem evf_slice {tl th : TO} {xs : List T} {lo hi : Option Int} (h : EvL K ta Γ xs) (hl : EvO K tl Γ lo) (hh : EvO K th Γ hi) : EvF K (tSl (rSlL K) ta tl th) Γ (cutT xs lo hi) := fun H0 A σ H Q E q =>
  h H0 A σ H _ E fun b vs H1 s1 sq r1 => hl H0 A σ H1 _ (E.mono s1) fun H2 s2 => hh H0 A σ H2 _ (E.mono (s1.trans s2)) fun H3 s3 =>
    ⟨b, vs, rfl, s3.seq (s2.seq sq), fun p hp => by
      have s := s1.trans (s2.trans s3)
      refine q p _ _ (s.free hp) (s.trans (same_upd hp)) upd_same ?_
      refine Rps.mono (Imm.of_same (same_upd hp)) ?_
      have r := r1.mono (Imm.of_same (s2.trans s3))
      have z : cutV vs lo hi = (vs.drop (HT.sIx xs.length 0 lo)).take (HT.sIx xs.length xs.length hi - HT.sIx xs.length 0 lo) := by unfold cutV; rw [r1.length]
      rw [z]
      unfold cutT
      exact (r.drop _).take _⟩
/-- tuple(..) of a list -/
theorem ev_tupleL {xs : List T} (h : EvL K ta Γ xs) : Ev K (tThen ta (kTup K)) Γ (.tup xs) := fun H0 A σ H Q E q =>
  h H0 A σ H _ E fun b vs H1 s1 sq r1 => .inl ⟨b, vs, rfl, sq, fun p hp => q _ _ (s1.trans (same_upd hp)) (.tup (.of upd_same) (r1.mono (Imm.of_same (same_upd hp))))⟩
theorem ev_tupleT {xs : List T} (h : Ev K ta Γ (.tup xs)) : Ev K (tThen ta (kTup K)) Γ (.tup xs) := fun H0 A σ H Q E q =>
  h H0 A σ H _ E fun v H1 s1 r1 => by
    cases r1 with
    | tup s r => exact .inr ⟨_, _, rfl, s, q _ _ s1 (.tup s r)⟩

/-! ### built-in calls -/
theorem ev_call1 {r : List V → Hp → VK → Prop} {x y : T} (ha : Ev K ta Γ x) (h : ∀ v H (Q : VK), Rp K H v x → (∀ u H', Same H H' → Rp K H' u y → Q u H') → r [v] H Q) : Ev K (tCB r (tCons ta tNil)) Γ y := fun H0 A σ H Q E q =>
  ha H0 A σ H _ E fun v H1 s1 r1 => h v H1 Q r1 fun u H2 s2 r2 => q u H2 (s1.trans s2) r2
theorem ev_int1 (ha : Ev K ta Γ (.int i)) : Ev K (tCB (fun xs H Q => (∃ i, xs = [.int i] ∧ Q (.int i) H) ∨ ∃ k, xs = [.bl k] ∧ Q (.int (if k then 1 else 0)) H) (tCons ta tNil)) Γ (.int i) :=
  ev_call1 ha fun v H Q r q => by
    cases r
    exact .inl ⟨i, rfl, q _ H (Same.refl H) (.int i)⟩
theorem ev_intB {k : Bool} (ha : Ev K ta Γ (.bl k)) : Ev K (tCB (fun xs H Q => (∃ i, xs = [.int i] ∧ Q (.int i) H) ∨ ∃ k, xs = [.bl k] ∧ Q (.int (if k then 1 else 0)) H) (tCons ta tNil)) Γ (.int (if k then 1 else 0)) :=
  ev_call1 ha fun v H Q r q => by
    cases r
    exact .inr ⟨k, rfl, q _ H (Same.refl H) (.int _)⟩
theorem ev_abs (ha : Ev K ta Γ (.int i)) : Ev K (tCB (fun xs H Q => ∃ i, xs = [.int i] ∧ Q (.int (if i < 0 then -i else i)) H) (tCons ta tNil)) Γ (.int (if i < 0 then -i else i)) :=
  ev_call1 ha fun v H Q r q => by
    cases r
    exact ⟨i, rfl, q _ H (Same.refl H) (.int _)⟩
theorem ev_lenL {xs : List T} (ha : EvL K ta Γ xs) : Ev K (tCB (fun xs H Q => ∃ p ys, xs = [.ref p] ∧ (SqL K H p ys ∨ SqT K H p ys) ∧ Q (.int ys.length) H) (tCons ta tNil)) Γ (.int xs.length) := fun H0 A σ H Q E q =>
  ha H0 A σ H _ E fun b vs H1 s1 sq r1 => ⟨b, vs, rfl, .inl sq, by rw [r1.length]; exact q _ H1 s1 (.int _)⟩
theorem ev_lenT {xs : List T} (ha : Ev K ta Γ (.tup xs)) : Ev K (tCB (fun xs H Q => ∃ p ys, xs = [.ref p] ∧ (SqL K H p ys ∨ SqT K H p ys) ∧ Q (.int ys.length) H) (tCons ta tNil)) Γ (.int xs.length) := fun H0 A σ H Q E q =>
  ha H0 A σ H _ E fun v H1 s1 r1 => by
    cases r1 with
    | tup sq r => exact ⟨_, _, rfl, .inr sq, by rw [r.length]; exact q _ H1 s1 (.int _)⟩

/-! ### a def's promise over data -/
def spD (K : PySem.W.Frag) (P : List D → D → Prop) : Sp := fun vs H Q _ => ∃ ds r, P ds r ∧ Args K H vs ds ∧ ∀ v H', Same H H' → Res K H H' v r → Q v H'
theorem ev_call {P : List D → D → Prop} {t : TA} {ds : List D} {x : T} {E : XK} (ha : EvA K t Γ ds) (hp : P ds (.t x)) : Ev K (tCall (spD K P) [] E t) Γ x := fun H0 A σ H Q EE q =>
  ha H0 A σ H _ EE fun vs H1 s1 r1 => ⟨ds, _, hp, by rw [List.append_nil]; exact r1, fun v H2 s2 r2 => q v H2 (s1.trans s2) r2⟩
theorem evf_call {P : List D → D → Prop} {t : TA} {ds : List D} {xs : List T} {E : XK} (ha : EvA K t Γ ds) (hp : P ds (.l xs)) : EvF K (tCall (spD K P) [] E t) Γ xs := fun H0 A σ H Q EE q =>
  ha H0 A σ H _ EE fun vs H1 s1 r1 => ⟨ds, _, hp, by rw [List.append_nil]; exact r1, fun v H2 s2 r2 => by
    obtain ⟨p, ws, rfl, n, e, r⟩ := r2
    exact q p ws H2 (s1.free n) (s1.trans s2) e r⟩
end
end Cz

namespace Cz
open PySem PySem.Spec PyProof.Rows L2
section
variable {K : PySem.W.Frag} {Γ : List D} {W : WX} {P : Po}

/-! ### statements -/
theorem sv_mono {t : TS} {P' : Po} (h : Sv K W t Γ P) (n : ∀ G, P.nx G → P'.nx G) (r : ∀ d, P.rt d → P'.rt d) (b : ∀ G, P.bk G → P'.bk G) (c : ∀ G, P.ct G → P'.ct G) (e : ∀ C G, P.er C G → P'.er C G) : Sv K W t Γ P' := fun H0 A σ H E hE M =>
  h H0 A σ H E hE ⟨fun G A σ H z => M.nx G A σ H (n G z), fun d v H z => M.rt d v H (r d z), fun G A σ H z => M.bk G A σ H (b G z), fun G A σ H z => M.ct G A σ H (c G z), fun C G A σ H z => M.er C G A σ H (e C G z)⟩
theorem sv_next (h : P.nx Γ) : Sv K W tNext Γ P := fun H0 A σ H E hE M => M.nx Γ A σ H h hE (.of_same (Same.refl H))
theorem sv_break (h : P.bk Γ) : Sv K W tBreak Γ P := fun H0 A σ H E hE M => M.bk Γ A σ H h hE (.of_same (Same.refl H))
theorem sv_cont (h : P.ct Γ) : Sv K W tCont Γ P := fun H0 A σ H E hE M => M.ct Γ A σ H h hE (.of_same (Same.refl H))
/-- one after another; mid: what is known between -/
theorem sv_seq {t u : TS} (mid : List D → Prop) (h : Sv K W t Γ { P with nx := mid }) (k : ∀ G, mid G → Sv K W u G P) : Sv K W (tSeq t u) Γ P := fun H0 A σ H E hE M =>
  h H0 A σ H { E with nx := u E } hE ⟨fun G A σ H z e g => k G z H0 A σ H E e (M.after g), M.rt, M.bk, M.ct, M.er⟩
/-- .. where the state between is the one state G -/
theorem sv_then {t u : TS} (G : List D) (h : Sv K W t Γ { P with nx := fun G' => G' = G }) (k : Sv K W u G P) : Sv K W (tSeq t u) Γ P := sv_seq (fun G' => G' = G) h fun _ e => e ▸ k
theorem sv_ret {te : TE} {x : T} (h : Ev K te Γ x) (hr : P.rt (.t x)) : Sv K W (tRet te) Γ P := fun H0 A σ H E hE M =>
  h H0 A σ H _ hE fun v H1 s r => M.rt _ v H1 hr r (hE.same.trans s)
theorem sv_retF {te : TE} {xs : List T} (h : EvF K te Γ xs) (hr : P.rt (.l xs)) : Sv K W (tRet te) Γ P := fun H0 A σ H E hE M =>
  h H0 A σ H _ hE fun p vs H1 n s e r => M.rt _ _ H1 hr ⟨p, vs, rfl, hE.same.free n, e, r⟩ (hE.same.trans s)
/-- return of an own list -/
theorem sv_retO {i : Nat} {xs : List T} (h : Γ[i]? = some (.own xs)) (hr : P.rt (.l xs)) : Sv K W (tRet (tVar i)) Γ P := fun H0 A σ H E hE M => by
  obtain ⟨e, n, vs, s, r⟩ := hE.ow h
  exact ⟨_, e, M.rt _ _ H hr ⟨_, vs, rfl, n, s, r⟩ hE.same⟩
theorem sv_retN (hr : P.rt (.t .non)) : Sv K W tRetN Γ P := fun H0 A σ H E hE M => M.rt _ _ H hr .non hE.same
theorem sv_if {t u : TS} {c : TT} {b : Bool} (h : EvB K c Γ b) (k1 : b = true → Sv K W t Γ P) (k2 : b = false → Sv K W u Γ P) : Sv K W (tIfS c t u) Γ P := fun H0 A σ H E hE M =>
  h H0 A σ H _ hE fun H1 s => by
    cases b with
    | true => exact iteT (k1 rfl H0 A σ H1 E (hE.mono s) (M.later s))
    | false => exact iteF (k2 rfl H0 A σ H1 E (hE.mono s) (M.later s))
theorem sv_never (h : False) : Sv K W tNever Γ P := h.elim
/-- what is raised -/
theorem sv_raise {C : Addr} (h : P.er C Γ) : Sv K W (fun _ σ H => W (.ref C) none σ H) Γ P := fun H0 A σ H E hE M => M.er C Γ A σ H h hE (.of_same (Same.refl H))
/-! targets -/
theorem gd_name (i : Nat) (x : T) : Gd K (gName i) Γ x (Γ.set i (.t x)) := fun H0 A σ H v Q E r q => q _ (E.setT r) .setT
theorem gds_nil : Gds K gNil Γ [] Γ := fun H0 A σ H vs Q E r q => by
  cases r
  exact ⟨rfl, q _ E (.of_same (Same.refl H))⟩
theorem gds_cons {g : TG} {u : TGs} {x : T} {xs : List T} {G1 G2 : List D} (h : Gd K g Γ x G1) (k : Gds K u G1 xs G2) : Gds K (gCons g u) Γ (x :: xs) G2 := fun H0 A σ H vs Q E r q => by
  cases r with
  | cons r rr => exact ⟨_, _, rfl, h H0 A σ H _ _ E r fun σ1 E1 g1 => k H0 A σ1 H _ _ E1 rr fun σ2 E2 g2 => q σ2 E2 (g1.trans g2)⟩
theorem gd_tup {u : TGs} {xs : List T} {n : Nat} {G : List D} (e : xs.length = n) (h : Gds K u Γ xs G) : Gd K (gTup K n u) Γ (.tup xs) G := fun H0 A σ H v Q E r q => by
  cases r with
  | tup s r => exact ⟨_, _, rfl, s, by rw [r.length]; exact e, h H0 A σ H _ _ E r q⟩
theorem sv_asg {te : TE} {g : TG} {x : T} {G : List D} (h : Ev K te Γ x) (hg : Gd K g Γ x G) (n : P.nx G) : Sv K W (tAsg te g) Γ P := fun H0 A σ H E hE M =>
  h H0 A σ H _ hE fun v H1 s r => hg H0 A σ H1 v _ (hE.mono s) r fun σ1 E1 g => M.nx G A σ1 H1 n E1 (g.same_then s)
theorem sv_set {te : TE} {i : Nat} {x : T} (h : Ev K te Γ x) (n : P.nx (Γ.set i (.t x))) : Sv K W (tAsg te (gName i)) Γ P := sv_asg h (gd_name i x) n
theorem sv_setF {te : TE} {i : Nat} {xs : List T} (h : EvF K te Γ xs) (n : P.nx (Γ.set i (.own xs))) : Sv K W (tAsg te (gName i)) Γ P := fun H0 A σ H E hE M =>
  h H0 A σ H _ hE fun p vs H1 np s e r => M.nx _ _ _ H1 n (hE.setL s np e r) (.setL s np)
theorem sv_drop {te : TE} {x : T} (h : Ev K te Γ x) (n : P.nx Γ) : Sv K W (tDrop te) Γ P := fun H0 A σ H E hE M =>
  h H0 A σ H _ hE fun v H1 s r => M.nx Γ A σ H1 n (hE.mono s) (.of_same s)
/-- xs.append(e) of an own list -/
theorem sv_append {te : TE} {i : Nat} {xs : List T} {y : T} (hi : Γ[i]? = some (.own xs)) (h : Ev K te Γ y) (z : xs.length < 1000000) (n : P.nx (Γ.set i (.own (xs ++ [y])))) :
    Sv K W (tDrop (tBM K "list" rAppend (tVar i) (tCons te tNil))) Γ P := fun H0 A σ H E hE M => by
  obtain ⟨e, n0, vs, s, r⟩ := hE.ow hi
  refine ⟨.ref (A i), e, .inl ⟨rfl, vs, .of s⟩, ?_⟩
  refine h H0 A σ H _ hE fun v H1 s1 r1 => ?_
  have E1 := hE.mono s1
  obtain ⟨_, _, vs', s', r'⟩ := E1.ow hi
  refine ⟨A i, vs', v, rfl, rfl, s', ?_, ?_⟩
  · rw [r'.length, sizeLine_eq]; omega
  · exact M.nx _ A σ _ n (E1.chg hi (r'.append (.cons r1 .nil))) ((Go.chg hi).same_then s1)
/-- xs[k] = e of an own list -/
theorem sv_setitem {te ti : TE} {i : Nat} {xs : List T} {y : T} {k : Int} {j : Nat} (hi : Γ[i]? = some (.own xs)) (h : Ev K te Γ y) (hk : Ev K ti Γ (.int k)) (hj : ixN xs.length k = some j) (n : P.nx (Γ.set i (.own (xs.set j y)))) :
    Sv K W (tAsg te (gSub (tVar i) ti rSetL)) Γ P := fun H0 A σ H E hE M =>
  h H0 A σ H _ hE fun v H1 s1 r1 => by
    have E1 := hE.mono s1
    obtain ⟨e, _, _, _, _⟩ := E1.ow hi
    refine ⟨.ref (A i), e, hk H0 A σ H1 _ E1 fun w H2 s2 r2 => ?_⟩
    cases r2
    have E2 := E1.mono s2
    obtain ⟨_, _, vs, s, r⟩ := E2.ow hi
    refine ⟨A i, vs, k, j, rfl, rfl, s, by rw [r.length]; exact hj, ?_⟩
    exact M.nx _ A σ _ n (E2.chg hi (Rps.set (Rp.mono (Imm.of_same s2) r1) j r)) ((Go.chg hi).same_then (s1.trans s2))
/-- x op= e of an int -/
theorem sv_aug {te : TE} {i : Nat} {a b : Int} {f : Int → Int → Int} (hi : Γ[i]? = some (.t (.int a))) (h : Ev K te Γ (.int b)) (n : P.nx (Γ.set i (.t (.int (f a b))))) : Sv K W (tAug i te (ipI f)) Γ P := fun H0 A σ H E hE M => by
  obtain ⟨v, e, r⟩ := hE.tv hi
  refine ⟨v, e, h H0 A σ H _ hE fun w H1 s1 r1 => ?_⟩
  cases r
  cases r1
  exact ⟨a, b, rfl, rfl, M.nx _ A _ H1 n ((hE.mono s1).setT (.int _)) (Go.setT.same_then s1)⟩

/-- an own list is only read from here on -/
theorem sv_freeze {t : TS} {k : Nat} {xs : List T} (h : Γ[k]? = some (.own xs)) (s : Sv K W t (Γ.set k (.l xs)) P) : Sv K W t Γ P := fun H0 A σ H E hE M =>
  s H0 A σ H E (hE.freeze h) (M.after (Go.put fun _ z => nomatch z))

/-! ### loops -/
section
variable {g : TG} {tb : TS}
/-- a turn of a loop, as the rules of the layer ask it -/
theorem Meet.turn {H0 H H1 : Hp} {A A1 : Nat → Addr} {G1 : List D} {E : Ends} {I : List D → Prop} {J : L2.St → Hp → Prop} (M : Meet K W H0 Γ A H P E) (s : Go Γ A H G1 A1 H1)
    (hJ : ∀ G B σ H', I G → EnvD K H0 H' σ G B → Go Γ A H G B H' → J σ H') : Meet K W H0 G1 A1 H1 { P with nx := I, ct := I, bk := P.nx } { E with nx := J, ct := J, bk := E.nx } :=
  ⟨fun G B σ H' p e g => hJ G B σ H' p e (s.trans g), M.rt, fun G B σ H' p e g => M.nx G B σ H' p e (s.trans g), fun G B σ H' p e g => hJ G B σ H' p e (s.trans g), fun C G B σ H' p e g => M.er C G B σ H' p e (s.trans g)⟩
/-- for over a range; I: what holds ahead of the i-th turn -/
theorem sv_range1 {ta : TE} {n : Int} (I : Nat → List D → Prop) (h : Ev K ta Γ (.int n)) (z : -4611686018427387904 ≤ n ∧ n < 4611686018427387904) (h0 : I 0 Γ)
    (hs : ∀ i G, i < n.toNat → I i G → ∃ G', Gd K g G (.int i) G' ∧ Sv K W tb G' { P with nx := I (i + 1), ct := I (i + 1), bk := P.nx }) (hd : ∀ G, I n.toNat G → P.nx G) :
    Sv K W (tFor (iRng1 (tCons ta tNil)) g tb) Γ P := fun H0 A σ H E hE M => by
  refine h H0 A σ H _ hE fun v H1 s r => ?_
  cases r
  have M := M.later s
  refine ⟨n, rfl, by simpa using z.1, by simpa using z.2, for_range (fun i σ H => ∃ G B, I i G ∧ EnvD K H0 H σ G B ∧ Go Γ A H1 G B H) ⟨Γ, A, h0, hE.mono s, .of_same (Same.refl H1)⟩ ?_ ?_⟩
  · rintro i σ H ii ⟨G, B, iG, eG, gG⟩
    obtain ⟨G', hg, hb⟩ := hs i G ii iG
    rw [Int.zero_add]
    refine hg H0 B σ H _ _ eG (.int i) fun σ2 e2 g2 => ?_
    exact hb H0 B σ2 H _ e2 (M.turn (gG.trans g2) fun G B σ H' p e g => ⟨G, B, p, e, g⟩)
  · rintro σ H ⟨G, B, iG, eG, gG⟩
    exact M.nx G B σ H (hd G iG) eG gG
theorem sv_range2 {ta tc : TE} {a n : Int} (I : Nat → List D → Prop) (ha : Ev K ta Γ (.int a)) (h : Ev K tc Γ (.int n)) (z : -4611686018427387904 ≤ a ∧ a < 4611686018427387904 ∧ -4611686018427387904 ≤ n ∧ n < 4611686018427387904) (h0 : I 0 Γ)
    (hs : ∀ i G, i < (n - a).toNat → I i G → ∃ G', Gd K g G (.int (a + i)) G' ∧ Sv K W tb G' { P with nx := I (i + 1), ct := I (i + 1), bk := P.nx }) (hd : ∀ G, I (n - a).toNat G → P.nx G) :
    Sv K W (tFor (iRng2 (tCons ta (tCons tc tNil))) g tb) Γ P := fun H0 A σ H E hE M => by
  refine ha H0 A σ H _ hE fun v H1 s1 r1 => h H0 A σ H1 _ (hE.mono s1) fun w H2 s2 r2 => ?_
  cases r1
  cases r2
  have M := (M.later s1).later s2
  refine ⟨a, n, rfl, by simpa using z, for_range (fun i σ H => ∃ G B, I i G ∧ EnvD K H0 H σ G B ∧ Go Γ A H2 G B H) ⟨Γ, A, h0, (hE.mono s1).mono s2, .of_same (Same.refl H2)⟩ ?_ ?_⟩
  · rintro i σ H ii ⟨G, B, iG, eG, gG⟩
    obtain ⟨G', hg, hb⟩ := hs i G ii iG
    refine hg H0 B σ H _ _ eG (.int _) fun σ2 e2 g2 => ?_
    exact hb H0 B σ2 H _ e2 (M.turn (gG.trans g2) fun G B σ H' p e g => ⟨G, B, p, e, g⟩)
  · rintro σ H ⟨G, B, iG, eG, gG⟩
    exact M.nx G B σ H (hd G iG) eG gG
/-- for over a tuple of data -/
theorem sv_forT {ta : TE} {xs : List T} (I : Nat → List D → Prop) (h : Ev K ta Γ (.tup xs)) (h0 : I 0 Γ)
    (hs : ∀ i x G, xs[i]? = some x → I i G → ∃ G', Gd K g G x G' ∧ Sv K W tb G' { P with nx := I (i + 1), ct := I (i + 1), bk := P.nx }) (hd : ∀ G, I xs.length G → P.nx G) :
    Sv K W (tFor (iTup K ta) g tb) Γ P := fun H0 A σ H E hE M => by
  refine h H0 A σ H _ hE fun v H1 s r => ?_
  cases r with
  | tup sq r =>
    rename_i a vs
    have M := M.later s
    have hE := hE.mono s
    refine ⟨a, rfl, ⟨vs, sq⟩, for_tup (K := K) (a := a) (xs := vs) (fun i σ H => ∃ G B, I i G ∧ EnvD K H0 H σ G B ∧ Go Γ A H1 G B H) ⟨Γ, A, h0, hE, .of_same (Same.refl H1)⟩ (fun i σ H _ ⟨G, B, _, _, g⟩ => g.sqT hE sq) ?_ ?_⟩
    · rintro i y σ H ii ⟨G, B, iG, eG, gG⟩
      obtain ⟨x, hx, rx⟩ := r.at' ii
      obtain ⟨G', hg, hb⟩ := hs i x G hx iG
      refine hg H0 B σ H _ _ eG (Rp.mono (gG.imm hE) rx) fun σ2 e2 g2 => ?_
      exact hb H0 B σ2 H _ e2 (M.turn (gG.trans g2) fun G B σ H' p e g => ⟨G, B, p, e, g⟩)
    · rintro σ H ⟨G, B, iG, eG, gG⟩
      exact M.nx G B σ H (by rw [r.length] at iG; exact hd G iG) eG gG
/-- for over a new list -/
theorem sv_forF {ta : TE} {xs : List T} (I : Nat → List D → Prop) (h : EvF K ta Γ xs) (h0 : I 0 Γ)
    (hs : ∀ i x G, xs[i]? = some x → I i G → ∃ G', Gd K g G x G' ∧ Sv K W tb G' { P with nx := I (i + 1), ct := I (i + 1), bk := P.nx }) (hd : ∀ G, I xs.length G → P.nx G) :
    Sv K W (tFor (iList K ta) g tb) Γ P := fun H0 A σ H E hE M => by
  refine h H0 A σ H _ hE fun a vs H1 n s ea r => ?_
  have M := M.later s
  have hE1 := hE.mono s
  have nown : ¬ IsOwn Γ A a := fun ⟨j, ys, q, z⟩ => by
    obtain ⟨_, _, ws, w, _⟩ := hE.ow q
    rw [z, n] at w
    cases w
  refine ⟨a, rfl, ⟨vs, .of ea⟩, for_list (K := K) (a := a) (xs := vs) (fun i σ H => ∃ G B, I i G ∧ EnvD K H0 H σ G B ∧ Go Γ A H1 G B H) ⟨Γ, A, h0, hE1, .of_same (Same.refl H1)⟩ (fun i σ H _ ⟨G, B, _, _, g⟩ => .of (g.kp a _ ea nown)) ?_ ?_⟩
  · rintro i y σ H ii ⟨G, B, iG, eG, gG⟩
    obtain ⟨x, hx, rx⟩ := r.at' ii
    obtain ⟨G', hg, hb⟩ := hs i x G hx iG
    refine hg H0 B σ H _ _ eG (Rp.mono (gG.imm hE1) rx) fun σ2 e2 g2 => ?_
    exact hb H0 B σ2 H _ e2 (M.turn (gG.trans g2) fun G B σ H' p e g => ⟨G, B, p, e, g⟩)
  · rintro σ H ⟨G, B, iG, eG, gG⟩
    exact M.nx G B σ H (by rw [r.length] at iG; exact hd G iG) eG gG
/-- for over a list that is only read -/
theorem sv_forV {k : Nat} {xs : List T} (I : Nat → List D → Prop) (hk : Γ[k]? = some (.l xs)) (h0 : I 0 Γ)
    (hs : ∀ i x G, xs[i]? = some x → I i G → ∃ G', Gd K g G x G' ∧ Sv K W tb G' { P with nx := I (i + 1), ct := I (i + 1), bk := P.nx }) (hd : ∀ G, I xs.length G → P.nx G) :
    Sv K W (tFor (iList K (tVar k)) g tb) Γ P := fun H0 A σ H E hE M => by
  have q := hE.sl k _ hk
  cases e : σ[k]? with
  | none => rw [e] at q; exact q.elim
  | some o => cases o with
    | none => rw [e] at q; exact q.elim
    | some v =>
      rw [e] at q
      obtain ⟨a, vs, e1, sq, n, r⟩ := q
      subst e1
      refine ⟨_, e, a, rfl, ⟨vs, sq⟩, for_list (K := K) (a := a) (xs := vs) (fun i σ H1 => ∃ G B, I i G ∧ EnvD K H0 H1 σ G B ∧ Go Γ A H G B H1) ⟨Γ, A, h0, hE, .of_same (Same.refl H)⟩ (fun i σ H _ ⟨G, B, _, _, g⟩ => g.sqL sq n) ?_ ?_⟩
      · rintro i y σ1 H1 ii ⟨G, B, iG, eG, gG⟩
        obtain ⟨x, hx, rx⟩ := r.at' ii
        obtain ⟨G', hg, hb⟩ := hs i x G hx iG
        refine hg H0 B σ1 H1 _ _ eG (Rp.mono (gG.imm hE) rx) fun σ2 e2 g2 => ?_
        exact hb H0 B σ2 H1 _ e2 (M.turn (gG.trans g2) fun G B σ H' p e g => ⟨G, B, p, e, g⟩)
      · rintro σ H ⟨G, B, iG, eG, gG⟩
        exact M.nx G B σ H (by rw [r.length] at iG; exact hd G iG) eG gG
end
end
end Cz

namespace Cz
open PySem PySem.Spec PyProof.Rows L2

/-! ### comprehensions -/
theorem wipe_set_none (σ : L2.St) (i : Nat) (o : Option V) : ∀ vs : List Nat, (wipe (σ.set i o) vs).set i none = (wipe σ vs).set i none
  | [] => by show (σ.set i o).set i none = σ.set i none; rw [List.set_set]
  | v :: vs => by
    show ((wipe (σ.set i o) vs).set v none).set i none = ((wipe σ vs).set v none).set i none
    by_cases e : v = i
    · subst e; rw [List.set_set, List.set_set, wipe_set_none σ v o vs]
    · rw [List.set_comm _ _ e, wipe_set_none σ i o vs, List.set_comm _ _ (Ne.symm e)]
theorem wipe_set {σ : L2.St} {i : Nat} {o : Option V} : ∀ {vs : List Nat}, i ∈ vs → wipe (σ.set i o) vs = wipe σ vs
  | v :: vs, h => by
    show (wipe (σ.set i o) vs).set v none = (wipe σ vs).set v none
    by_cases e : i = v
    · subst e; exact wipe_set_none σ i o vs
    · rw [wipe_set (vs := vs) (by simpa [e] using h)]
section
variable (K : PySem.W.Frag)
/-- a comprehension's target: only the slots ks are given -/
def Gv (g : TG) (Γ : List D) (x : T) (Γ' : List D) (ks : List Nat) : Prop := ∀ (H0 : Hp) (A : Nat → Addr) (σ : L2.St) (H : Hp) (v : V) (Q : L2.St → Hp → Prop), EnvD K H0 H σ Γ A → Rp K H v x →
  (∀ σ', EnvD K H0 H σ' Γ' A → wipe σ' ks = wipe σ ks → Q σ' H) → g v σ H Q
def Gvs (g : TGs) (Γ : List D) (xs : List T) (Γ' : List D) (ks : List Nat) : Prop := ∀ (H0 : Hp) (A : Nat → Addr) (σ : L2.St) (H : Hp) (vs : List V) (Q : L2.St → Hp → Prop), EnvD K H0 H σ Γ A → Rps K H vs xs →
  (∀ σ', EnvD K H0 H σ' Γ' A → wipe σ' ks = wipe σ ks → Q σ' H) → g vs σ H Q
end
section
variable {K : PySem.W.Frag} {Γ : List D} {W : WX} {P : Po}
theorem gv_name (i : Nat) (x : T) {ks : List Nat} (h : i ∈ ks) : Gv K (gName i) Γ x (Γ.set i (.t x)) ks := fun H0 A σ H v Q E r q => q _ (E.setT r) (wipe_set h)
theorem gvs_nil {ks : List Nat} : Gvs K gNil Γ [] Γ ks := fun H0 A σ H vs Q E r q => by
  cases r
  exact ⟨rfl, q _ E rfl⟩
theorem gvs_cons {g : TG} {u : TGs} {x : T} {xs : List T} {G1 G2 : List D} {ks : List Nat} (h : Gv K g Γ x G1 ks) (k : Gvs K u G1 xs G2 ks) : Gvs K (gCons g u) Γ (x :: xs) G2 ks := fun H0 A σ H vs Q E r q => by
  cases r with
  | cons r rr => exact ⟨_, _, rfl, h H0 A σ H _ _ E r fun σ1 E1 g1 => k H0 A σ1 H _ _ E1 rr fun σ2 E2 g2 => q σ2 E2 (g2.trans g1)⟩
theorem gv_tup {u : TGs} {xs : List T} {n : Nat} {G : List D} {ks : List Nat} (e : xs.length = n) (h : Gvs K u Γ xs G ks) : Gv K (gTup K n u) Γ (.tup xs) G ks := fun H0 A σ H v Q E r q => by
  cases r with
  | tup s r => exact ⟨_, _, rfl, s, by rw [r.length]; exact e, h H0 A σ H _ _ E r q⟩
theorem evb_yes : EvB K tYes Γ true := fun H0 A σ H Q E q => q H (Same.refl H)
/-- what stands in the new list behind i items -/
theorem take_snoc {α : Type} {l : List α} {i : Nat} {x : α} (h : l[i]? = some x) : l.take (i + 1) = l.take i ++ [x] := by
  rw [List.take_add_one, h]; rfl
section
variable {g : TG} {tt : TT} {te : TE} {ks : List Nat}
/-- one turn -/
def CT (K : PySem.W.Frag) (Γ : List D) (g : TG) (tt : TT) (te : TE) (ks : List Nat) (x : T) (c : Bool) (y : T) : Prop :=
  ∃ G', Gv K g (wipeD Γ ks) x G' ks ∧ EvB K tt G' c ∧ (c = true → Ev K te G' y)
theorem CT.run {x y : T} {c : Bool} (h : CT K Γ g tt te ks x c y) {H0 H1 H : Hp} {A : Nat → Addr} {σ : L2.St} {D : Addr} {v : V} {acc : List V} {ys : List T} {N : Hp → Prop} (E : EnvD K H0 H1 σ Γ A) (hD : H1 D = none)
    (s : Same H1 H) (ha : H D = some (.lst acc)) (r : Rps K H acc ys) (z : ys.length < 1000000) (rv : Rp K H v x)
    (hN : ∀ H', Same H1 H' → (∃ acc', H' D = some (.lst acc') ∧ Rps K H' acc' (if c = true then ys ++ [y] else ys)) → N H') :
    g v (wipe σ ks) H fun σ2 H2 => wipe σ2 ks = wipe σ ks ∧ tt σ2 H2 fun b H3 => if b = true then te σ2 H3 fun y H4 => ∃ acc, H4 D = some (.lst acc) ∧ acc.length < sizeLine ∧ N (upd H4 D (.lst (acc ++ [y]))) else N H3 := by
  obtain ⟨G', hg, hb, he⟩ := h
  have Ew := (E.wipe ks).mono s
  have w2 : ∀ σ : L2.St, wipe (wipe σ ks) ks = wipe σ ks := fun σ => by
    have q : ∀ (l : List Nat) (τ : L2.St), (∀ k ∈ l, ∀ o, τ[k]? = some o → o = none) → wipe τ l = τ := fun l => by
      induction l with
      | nil => intro τ _; rfl
      | cons k l ih =>
        intro τ h
        show (wipe τ l).set k none = τ
        rw [ih τ fun j hj => h j (List.mem_cons_of_mem _ hj)]
        apply List.ext_getElem?
        intro j
        by_cases e : k = j
        · subst e
          by_cases hk : k < τ.length
          · rw [List.getElem?_set_self hk, List.getElem?_eq_getElem hk, h k List.mem_cons_self _ (List.getElem?_eq_getElem hk)]
          · rw [List.getElem?_eq_none (by rw [List.length_set]; omega), List.getElem?_eq_none (by omega)]
        · rw [List.getElem?_set_ne e]
    refine q ks _ fun k hk o ho => ?_
    cases o with
    | none => rfl
    | some v => exact absurd hk (wipe_some ho).2
  refine hg H0 A (wipe σ ks) H v _ Ew rv fun σ2 E2 e2 => ⟨by rw [e2, w2], ?_⟩
  refine hb H0 A σ2 H _ E2 fun H3 s3 => ?_
  cases c with
  | true =>
    refine iteT (he rfl H0 A σ2 H3 _ (E2.mono s3) fun u H4 s4 r4 => ?_)
    have s34 := s3.trans s4
    refine ⟨acc, s34 _ _ ha, by rw [r.length, sizeLine_eq]; omega, ?_⟩
    have m : Imm H4 (upd H4 D (.lst (acc ++ [u]))) := Imm.of_lst (s34 _ _ ha)
    refine hN _ (fun b o q => ?_) ⟨_, upd_same, ?_⟩
    · rw [upd_ne (ne_of_none q hD)]
      exact s34 _ _ (s _ _ q)
    · rw [if_pos rfl]
      exact ((r.mono (Imm.of_same s34)).mono m).append (.cons (Rp.mono m r4) .nil)
  | false =>
    refine iteF (hN H3 (s.trans s3) ⟨acc, s3 _ _ ha, ?_⟩)
    rw [if_neg (by decide)]
    exact r.mono (Imm.of_same s3)
/-- the items kept, one after another -/
def keptN (c : Nat → Bool) (f : Nat → T) (n : Nat) : List T := ((List.range n).filter c).map f
theorem keptN_succ {c : Nat → Bool} {f : Nat → T} {n : Nat} : keptN c f (n + 1) = if c n = true then keptN c f n ++ [f n] else keptN c f n := by
  unfold keptN
  rw [List.range_succ, List.filter_append, List.map_append]
  by_cases e : c n = true
  · rw [if_pos e]; simp [e]
  · rw [if_neg e]; simp [e]
theorem keptN_len {c : Nat → Bool} {f : Nat → T} {n : Nat} : (keptN c f n).length ≤ n := by
  unfold keptN
  rw [List.length_map]
  exact Nat.le_trans (List.length_filter_le c _) (by rw [List.length_range]; exact Nat.le_refl n)
theorem keptN_all {ys : List T} : keptN (fun _ => true) (fun i => ys.getD i .non) ys.length = ys := by
  unfold keptN
  rw [List.filter_eq_self.mpr (fun _ _ => rfl)]
  apply List.ext_getElem?
  intro i
  rw [List.getElem?_map]
  by_cases h : i < ys.length
  · rw [List.getElem?_range h, List.getElem?_eq_getElem h]
    simp [List.getD, List.getElem?_eq_getElem h]
  · rw [List.getElem?_eq_none (by rw [List.length_range]; omega), List.getElem?_eq_none (by omega)]
    rfl
theorem keptN_eq {c : Nat → Bool} {f : Nat → T} {xs : List T} {p : T → Bool} {q : T → T} (h : ∀ i x, xs[i]? = some x → c i = p x ∧ f i = q x) : keptN c f xs.length = (xs.filter p).map q := by
  have e : ∀ n, n ≤ xs.length → keptN c f n = ((xs.take n).filter p).map q := fun n => by
    induction n with
    | zero => intro _; rfl
    | succ n ih =>
      intro hn
      have hx : xs[n]? = some xs[n] := List.getElem?_eq_getElem hn
      obtain ⟨e1, e2⟩ := h n _ hx
      rw [keptN_succ, ih (by omega), take_snoc hx, List.filter_append, List.map_append, e1, e2]
      by_cases e : p xs[n] = true
      · rw [if_pos e]; simp [e]
      · rw [if_neg e]; simp [e]
  rw [e _ (Nat.le_refl _), List.take_length]
/-- over a list (a new one, or one to be read) -/
theorem evf_compL {tl : TE} {xs : List T} (c : Nat → Bool) (f : Nat → T) (hl : EvL K tl Γ xs) (z : xs.length < 1000000) (h : ∀ (i : Nat) (x : T), xs[i]? = some x → CT K Γ g tt te ks x (c i) (f i)) :
    EvF K (tLc (iList K tl) g tt te ks) Γ (keptN c f xs.length) := fun H0 A σ H Q E q =>
  hl H0 A σ H _ E fun a vs H1 s1 sq r => by
    have E1 := E.mono s1
    refine ⟨a, rfl, ⟨vs, sq⟩, fun D hD => lc_list (K := K) (a := a) (xs := vs) (fun i H => Same H1 H ∧ ∃ acc, H D = some (.lst acc) ∧ Rps K H acc (keptN c f i))
      ⟨same_upd hD, [], upd_same, .nil⟩ (fun i H _ p => p.1.seq sq) ?_ ?_⟩
    · rintro i v H hi ⟨s, acc, ha, ra⟩
      obtain ⟨x, hx, rx⟩ := r.at' hi
      have hil : i < xs.length := (List.getElem?_eq_some_iff.mp hx).1
      have zi : (keptN c f i).length < 1000000 := Nat.lt_of_le_of_lt keptN_len (by omega)
      refine (h i x hx).run E1 hD s ha ra zi (Rp.mono (Imm.of_same s) rx) fun H' s' ⟨acc', h', r'⟩ => ⟨s', acc', h', ?_⟩
      rw [keptN_succ]
      exact r'
    · rintro H ⟨s, acc, ha, ra⟩
      rw [r.length] at ra
      exact q D acc H (s1.free hD) (s1.trans s) ha ra
/-- over a tuple -/
theorem evf_compT {tl : TE} {xs : List T} (c : Nat → Bool) (f : Nat → T) (hl : Ev K tl Γ (.tup xs)) (z : xs.length < 1000000) (h : ∀ (i : Nat) (x : T), xs[i]? = some x → CT K Γ g tt te ks x (c i) (f i)) :
    EvF K (tLc (iTup K tl) g tt te ks) Γ (keptN c f xs.length) := fun H0 A σ H Q E q =>
  hl H0 A σ H _ E fun v H1 s1 rv => by
    cases rv with
    | tup sq r =>
      rename_i a vs
      have E1 := E.mono s1
      refine ⟨a, rfl, ⟨vs, sq⟩, fun D hD => lc_tup (K := K) (a := a) (xs := vs) (fun i H => Same H1 H ∧ ∃ acc, H D = some (.lst acc) ∧ Rps K H acc (keptN c f i))
        ⟨same_upd hD, [], upd_same, .nil⟩ (fun i H _ p => (Imm.of_same p.1).sqT sq) ?_ ?_⟩
      · rintro i v H hi ⟨s, acc, ha, ra⟩
        obtain ⟨x, hx, rx⟩ := r.at' hi
        have hil : i < xs.length := (List.getElem?_eq_some_iff.mp hx).1
        have zi : (keptN c f i).length < 1000000 := Nat.lt_of_le_of_lt keptN_len (by omega)
        refine (h i x hx).run E1 hD s ha ra zi (Rp.mono (Imm.of_same s) rx) fun H' s' ⟨acc', h', r'⟩ => ⟨s', acc', h', ?_⟩
        rw [keptN_succ]
        exact r'
      · rintro H ⟨s, acc, ha, ra⟩
        rw [r.length] at ra
        exact q D acc H (s1.free hD) (s1.trans s) ha ra
theorem comp_rg {lo : Int} {n : Nat} (c : Nat → Bool) (f : Nat → T) (z : n < 1000000) (h : ∀ i : Nat, i < n → CT K Γ g tt te ks (.int (lo + i)) (c i) (f i))
    {H0 H1 : Hp} {A : Nat → Addr} {σ : L2.St} {Q : VK} (E1 : EnvD K H0 H1 σ Γ A) (q : ∀ p vs H', H1 p = none → Same H1 H' → H' p = some (.lst vs) → Rps K H' vs (keptN c f n) → Q (.ref p) H') :
    ∀ D, H1 D = none → ∃ W : Nat → Nat → Hp → Prop, (∃ m, W 0 m (upd H1 D (.lst []))) ∧ ∀ i m H, W i m H →
      ((Itr lo n).stop i H ∧ Q (.ref D) H) ∨ ((Itr lo n).go i H ∧ ∃ Nx : Hp → Prop, (∀ H', Nx H' → ∃ m', m' < m ∧ W (i + 1) m' H') ∧ ∀ x H', (Itr lo n).yld i H x H' → g x (wipe σ ks) H' fun σ2 H2 => wipe σ2 ks = wipe σ ks ∧ tt σ2 H2 fun b H3 =>
        if b = true then te σ2 H3 fun y H4 => ∃ acc, H4 D = some (.lst acc) ∧ acc.length < sizeLine ∧ Nx (upd H4 D (.lst (acc ++ [y]))) else Nx H3) := fun D hD => by
  refine lc_range (lo := lo) (n := n) (fun i H => Same H1 H ∧ ∃ acc, H D = some (.lst acc) ∧ Rps K H acc (keptN c f i))
    ⟨same_upd hD, [], upd_same, .nil⟩ ?_ ?_
  · rintro i H hi ⟨s, acc, ha, ra⟩
    have zi : (keptN c f i).length < 1000000 := Nat.lt_of_le_of_lt keptN_len (by omega)
    refine (h i hi).run E1 hD s ha ra zi (.int _) fun H' s' ⟨acc', h', r'⟩ => ⟨s', acc', h', ?_⟩
    rw [keptN_succ]
    exact r'
  · rintro H ⟨s, acc, ha, ra⟩
    exact q D acc H hD s ha ra
theorem evf_compR1 {ta : TE} {n : Int} (c : Nat → Bool) (f : Nat → T) (hn : Ev K ta Γ (.int n)) (z : -4611686018427387904 ≤ n ∧ n < 1000000) (h : ∀ i : Nat, i < n.toNat → CT K Γ g tt te ks (.int i) (c i) (f i)) :
    EvF K (tLc (iRng1 (tCons ta tNil)) g tt te ks) Γ (keptN c f n.toNat) := fun H0 A σ H Q E q =>
  hn H0 A σ H _ E fun v H1 s1 rv => by
    cases rv
    exact ⟨n, rfl, by simpa using z.1, by omega, comp_rg c f (by omega) (fun i hi => by rw [Int.zero_add]; exact h i hi) (E.mono s1) fun p vs H' np s e r => q p vs H' (s1.free np) (s1.trans s) e r⟩
theorem evf_compR2 {ta tc : TE} {a n : Int} (c : Nat → Bool) (f : Nat → T) (ha : Ev K ta Γ (.int a)) (hn : Ev K tc Γ (.int n)) (z : (n - a).toNat < 1000000 ∧ -4611686018427387904 ≤ a ∧ a < 4611686018427387904 ∧ -4611686018427387904 ≤ n ∧ n < 4611686018427387904)
    (h : ∀ i : Nat, i < (n - a).toNat → CT K Γ g tt te ks (.int (a + i)) (c i) (f i)) :
    EvF K (tLc (iRng2 (tCons ta (tCons tc tNil))) g tt te ks) Γ (keptN c f (n - a).toNat) := fun H0 A σ H Q E q =>
  ha H0 A σ H _ E fun v H1 s1 rv => hn H0 A σ H1 _ (E.mono s1) fun w H2 s2 rw' => by
    cases rv
    cases rw'
    exact ⟨a, n, rfl, by simpa using z.2, comp_rg c f z.1 h ((E.mono s1).mono s2) fun p vs H' np s e r => q p vs H' (s1.free (s2.free np)) (s1.trans (s2.trans s)) e r⟩
end
/-! .. without a test: the list ys, item by item -/
section
variable {te : TE} {i : Nat}
/-- a turn whose target is the name in slot i -/
theorem ct1 {tt : TT} {x y : T} {c : Bool} (hb : EvB K tt ((wipeD Γ [i]).set i (.t x)) c) (h : c = true → Ev K te ((wipeD Γ [i]).set i (.t x)) y) : CT K Γ (gName i) tt te [i] x c y := ⟨_, gv_name i x (by simp), hb, h⟩
theorem getD_of {ys : List T} {j : Nat} {P : T → Prop} (hj : j < ys.length) (h : ∀ y, ys[j]? = some y → P y) : P (ys.getD j .non) := by
  have e : ys[j]? = some (ys.getD j .non) := by simp [List.getD, List.getElem?_eq_getElem hj]
  exact h _ e
theorem evf_lcL {tl : TE} {xs : List T} (ys : List T) (hl : EvL K tl Γ xs) (e : xs.length = ys.length) (z : xs.length < 1000000) (h : ∀ (j : Nat) (x y : T), xs[j]? = some x → ys[j]? = some y → Ev K te ((wipeD Γ [i]).set i (.t x)) y) : EvF K (tLc (iList K tl) (gName i) tYes te [i]) Γ ys :=
  evf_eq (evf_compL (fun _ => true) (fun j => ys.getD j .non) hl z fun j x hx => ct1 evb_yes fun _ => getD_of (by rw [← e]; exact (List.getElem?_eq_some_iff.mp hx).1) (h j x · hx)) (by rw [e, keptN_all])
theorem evf_lcT {tl : TE} {xs : List T} (ys : List T) (hl : Ev K tl Γ (.tup xs)) (e : xs.length = ys.length) (z : xs.length < 1000000) (h : ∀ (j : Nat) (x y : T), xs[j]? = some x → ys[j]? = some y → Ev K te ((wipeD Γ [i]).set i (.t x)) y) : EvF K (tLc (iTup K tl) (gName i) tYes te [i]) Γ ys :=
  evf_eq (evf_compT (fun _ => true) (fun j => ys.getD j .non) hl z fun j x hx => ct1 evb_yes fun _ => getD_of (by rw [← e]; exact (List.getElem?_eq_some_iff.mp hx).1) (h j x · hx)) (by rw [e, keptN_all])
theorem evf_lcR {ta : TE} {n : Int} (ys : List T) (hn : Ev K ta Γ (.int n)) (e : n.toNat = ys.length) (z : -4611686018427387904 ≤ n ∧ n < 1000000) (h : ∀ (j : Nat) (y : T), ys[j]? = some y → Ev K te ((wipeD Γ [i]).set i (.t (.int j))) y) : EvF K (tLc (iRng1 (tCons ta tNil)) (gName i) tYes te [i]) Γ ys :=
  evf_eq (evf_compR1 (fun _ => true) (fun j => ys.getD j .non) hn z fun j hj => ct1 evb_yes fun _ => getD_of (by rw [← e]; exact hj) (h j)) (by rw [e, keptN_all])
/-- three items -/
theorem evf_lcT3 {tl : TE} {x1 x2 x3 y1 y2 y3 : T} (hl : Ev K tl Γ (.tup [x1, x2, x3])) (h1 : Ev K te ((wipeD Γ [i]).set i (.t x1)) y1) (h2 : Ev K te ((wipeD Γ [i]).set i (.t x2)) y2) (h3 : Ev K te ((wipeD Γ [i]).set i (.t x3)) y3) : EvF K (tLc (iTup K tl) (gName i) tYes te [i]) Γ [y1, y2, y3] :=
  evf_lcT _ hl rfl (by show 3 < 1000000; decide) fun j x y hx hy => match j, hx, hy with
    | 0, hx, hy => by cases hx; cases hy; exact h1
    | 1, hx, hy => by cases hx; cases hy; exact h2
    | 2, hx, hy => by cases hx; cases hy; exact h3
    | k + 3, hx, _ => by simp at hx
theorem evf_lcR3 {y1 y2 y3 : T} (h1 : Ev K te ((wipeD Γ [i]).set i (.t (.int 0))) y1) (h2 : Ev K te ((wipeD Γ [i]).set i (.t (.int 1))) y2) (h3 : Ev K te ((wipeD Γ [i]).set i (.t (.int 2))) y3) : EvF K (tLc (iRng1 (tCons (tC (.int 3)) tNil)) (gName i) tYes te [i]) Γ [y1, y2, y3] :=
  evf_lcR _ ev_int rfl (by decide) fun j y hy => match j, hy with
    | 0, hy => by cases hy; exact h1
    | 1, hy => by cases hy; exact h2
    | 2, hy => by cases hy; exact h3
    | k + 3, hy => by simp at hy
/-- [tuple(line) for line in lines], lines a list of lists -/
theorem evf_lines {L : Nat} {xss : List (List T)} (hL : Γ[L]? = some (.ll xss)) (z : xss.length < 1000000) (n : i < Γ.length) : EvF K (tLc (iList K (tVar L)) (gName i) tYes (tThen (tVar i) (kTup K)) [i]) Γ (xss.map T.tup) := fun H0 A σ H Q E q => by
  have sL := E.sl L _ hL
  cases e : σ[L]? with
  | none => rw [e] at sL; exact sL.elim
  | some o => cases o with
    | none => rw [e] at sL; exact sL.elim
    | some v =>
      rw [e] at sL
      obtain ⟨b, vs, e1, sq, r⟩ := sL
      subst e1
      refine ⟨_, e, b, rfl, ⟨vs, sq.1⟩, fun D hD => lc_list (K := K) (a := b) (xs := vs) (fun j H1 => Same H H1 ∧ ∃ acc, H1 D = some (.lst acc) ∧ Rps K H1 acc ((xss.take j).map T.tup)) ⟨same_upd hD, [], upd_same, .nil⟩ (fun j H1 _ p => p.1.seq sq.1) ?_ ?_⟩
      · rintro j v H1 hj ⟨s, acc, ha, ra⟩
        obtain ⟨c, ws, xs, e2, hx, hc, rw'⟩ := r.at' hj
        subst e2
        have hil : i < σ.length := by rw [E.len]; exact n
        refine ⟨?_, ?_⟩
        · show ((wipe σ [i]).set i (some (.ref c))).set i none = _
          rw [List.set_set]
          show (σ.set i none).set i none = σ.set i none
          rw [List.set_set]
        · show tThen (tVar i) (kTup K) ((wipe σ [i]).set i (some (.ref c))) H1 _
          refine ⟨.ref c, ?_, .inl ⟨c, ws, rfl, s.seq hc.1, fun p hp => ?_⟩⟩
          · show ((σ.set i none).set i (some (.ref c)))[i]? = _
            rw [List.set_set, List.getElem?_set_self hil]
          · have npD : D ≠ p := ne_of_none ha hp
            refine ⟨acc, by rw [upd_ne npD]; exact ha, ?_, ?_⟩
            · rw [ra.length, List.length_map, List.length_take, sizeLine_eq]; omega
            · have h4 : (upd H1 p (.tup ws)) D = some (.lst acc) := by rw [upd_ne npD]; exact ha
              have m1 : Imm H1 (upd H1 p (.tup ws)) := Imm.of_same (same_upd hp)
              have m2 : Imm (upd H1 p (.tup ws)) (upd (upd H1 p (.tup ws)) D (.lst (acc ++ [.ref p]))) := Imm.of_lst h4
              refine ⟨fun b o q => ?_, _, upd_same, ?_⟩
              · rw [upd_ne (ne_of_none q hD)]
                exact same_upd hp _ _ (s _ _ q)
              · rw [take_snoc hx, List.map_append]
                refine ((ra.mono m1).mono m2).append (.cons (.tup (m2.sqT (.of upd_same)) ?_) .nil)
                exact ((rw'.mono (Imm.of_same s)).mono m1).mono m2
      · rintro H1 ⟨s, acc, ha, ra⟩
        rw [r.length, List.take_length] at ra
        exact q D acc H1 hD s ha ra
end
end

/-! ### a def -/
def startD (N : List Str) (ds : List D) : List D := ds ++ List.replicate (N.length - ds.length) .no
theorem Args.noown {K : PySem.W.Frag} {H : Hp} : ∀ {vs : List V} {ds : List D} {i : Nat} {xs : List T}, Args K H vs ds → ds[i]? ≠ some (.own xs)
  | _, _, _, _, .nil, e => by simp at e
  | _, _, 0, _, .cons h _, e => by
    rw [List.getElem?_cons_zero] at e
    rw [Option.some.inj e] at h
    exact h
  | _, _, i + 1, xs, .cons _ r, e => Args.noown (i := i) (xs := xs) r (by simpa using e)
theorem Args.at' {K : PySem.W.Frag} {H : Hp} : ∀ {vs : List V} {ds : List D} {i : Nat} {d : D}, Args K H vs ds → ds[i]? = some d → ∃ v, vs[i]? = some v ∧ Arg K H v d
  | _, _, _, _, .nil, e => by simp at e
  | _, _, 0, _, .cons h _, e => by
    rw [List.getElem?_cons_zero] at e
    rw [Option.some.inj e] at h
    exact ⟨_, rfl, h⟩
  | _, _, i + 1, d, .cons _ r, e => by
    obtain ⟨v, h1, h2⟩ := Args.at' (i := i) (d := d) r (by simpa using e)
    exact ⟨v, by simpa using h1, h2⟩
theorem env_start {K : PySem.W.Frag} {H : Hp} {N : List Str} {vs : List V} {ds : List D} (h : Args K H vs ds) : EnvD K H H (L2.start N vs) (startD N ds) (fun _ => 0) := by
  have hl := h.length
  have no : ∀ (i : Nat) (xs : List T), (startD N ds)[i]? ≠ some (D.own xs) := fun i xs e => by
    unfold startD at e
    by_cases k : i < ds.length
    · rw [List.getElem?_append_left k] at e
      exact h.noown e
    · rw [List.getElem?_append_right (by omega), List.getElem?_replicate] at e
      split at e <;> cases e
  refine ⟨Same.refl H, ?_, fun i d e => ?_, fun i j xs ys hi => absurd hi (no i xs)⟩
  · unfold L2.start startD
    simp only [List.length_append, List.length_map, List.length_replicate]
    omega
  · unfold startD at e
    unfold L2.start
    by_cases k : i < ds.length
    · rw [List.getElem?_append_left k] at e
      obtain ⟨v, hv, ha⟩ := h.at' e
      rw [List.getElem?_append_left (by rw [List.length_map]; omega), List.getElem?_map, hv]
      cases d with
      | no => trivial
      | t x => exact ha
      | l xs =>
        obtain ⟨b, ws, e1, s, r⟩ := ha
        exact ⟨b, ws, e1, s, fun ⟨j, ys, hj, _⟩ => absurd hj (no j ys), r⟩
      | own xs => exact absurd e h.noown
      | rf a => exact ha.elim
      | ll a => exact ha.elim
    · rw [List.getElem?_append_right (by omega), List.getElem?_replicate] at e
      split at e
      · cases e
        unfold Sl
        split <;> trivial
      · cases e
abbrev W0 : WX := fun _ _ _ _ => False
/-- what a def's body is to reach: r comes back -/
abbrev toRet (r : D) : Po := { nx := fun _ => r = .t .non, rt := fun d => d = r }
section
variable {P : Program} {w : World} {K : PySem.W.Frag} {mg : Str → Option Value} {base : Heap}
/-- THE RULE for a def that raises nothing -/
theorem fn_d {x qual : Str} {st : Stmt} {f : Addr} {fd : FuncData} {N ps : List Str} {k : Nat} {R : List D → D → Prop} (F : Fun K x qual st f fd) (S : FnScope N ps (defScope st)) (len : ∀ ds r, R ds r → ds.length = ps.length)
    (hbody : ∀ (cdv : Value) (A : Around) (outer : List Env) (s : Shared) (H : Hp) (E : XK), Room k (A.deeper (envOfC qual (defScope st) s.heap.objs.size f cdv)) →
      ∃ t, PSs (cxOf CX0 P w K mg base N qual (defScope st) f cdv A outer s H E).nox (defBody st) t ∧ ∀ ds r, R ds r → Sv K W0 t (startD N ds) (toRet r)) : FnOk P w K mg base CX0 (k + 1) f fd ps (spD K R) := by
  refine F.ok S (fun vs H Q E ⟨ds, r, h, ha, _⟩ => by rw [ha.length]; exact len ds r h) (fun cdv A outer s H vs Q E hr ⟨ds, r, h, ha, q⟩ => ?_)
  obtain ⟨t, ht, hs⟩ := hbody cdv A outer s H E hr
  refine ⟨t, ht, hs ds r h H _ _ H _ (env_start ha) ⟨fun G B σ H' e E' _ => ?_, fun r' v H' e hres s' => ?_, fun _ _ _ _ z => z.elim, fun _ _ _ _ z => z.elim, fun _ _ _ _ _ z => z.elim⟩⟩
  · subst e
    exact q .non H' E'.same .non
  · subst e
    exact q v H' s' hres
end
/-! ### a def that may raise -/
inductive Rs where
  | ok (d : D)
  | er (C : Addr)
def spX (K : PySem.W.Frag) (R : List D → Rs → Prop) : Sp := fun vs H Q E => ∃ ds r, R ds r ∧ Args K H vs ds ∧ match r with
  | .ok d => ∀ v H', Same H H' → Res K H H' v d → Q v H'
  | .er C => ∀ H', Same H H' → E (.ref C) none H'
abbrev toRs (r : Rs) : Po := { nx := fun _ => r = .ok (.t .non), rt := fun d => r = .ok d, er := fun C _ => r = .er C }
section
variable {P : Program} {w : World} {K : PySem.W.Frag} {mg : Str → Option Value} {base : Heap}
theorem fn_x {x qual : Str} {st : Stmt} {f : Addr} {fd : FuncData} {N ps : List Str} {k : Nat} {R : List D → Rs → Prop} (F : Fun K x qual st f fd) (S : FnScope N ps (defScope st)) (len : ∀ ds r, R ds r → ds.length = ps.length)
    (hbody : ∀ (cdv : Value) (A : Around) (outer : List Env) (s : Shared) (H : Hp) (E : XK), Room k (A.deeper (envOfC qual (defScope st) s.heap.objs.size f cdv)) →
      ∃ t, PSs (cxOf (L2.CX P w) P w K mg base N qual (defScope st) f cdv A outer s H E) (defBody st) t ∧ ∀ ds r, R ds r → Sv K (fun cls d _ H => E cls d H) t (startD N ds) (toRs r)) : FnOk P w K mg base (L2.CX P w) (k + 1) f fd ps (spX K R) := by
  refine F.okX S (fun vs H Q E ⟨ds, r, h, ha, _⟩ => by rw [ha.length]; exact len ds r h) (fun cdv A outer s H vs Q E hr ⟨ds, r, h, ha, q⟩ => ?_)
  obtain ⟨t, ht, hs⟩ := hbody cdv A outer s H E hr
  refine ⟨t, ht, hs ds r h H _ _ H _ (env_start ha) ⟨fun G B σ H' e E' _ => ?_, fun r' v H' e hres s' => ?_, fun _ _ _ _ z => z.elim, fun _ _ _ _ z => z.elim, fun C G B σ H' e E' _ => ?_⟩⟩
  · subst e
    exact q .non H' E'.same .non
  · subst e
    exact q v H' s' hres
  · subst e
    exact q H' E'.same
end
section
variable {K : PySem.W.Frag} {Γ : List D} {W : WX} {P : Po} {t : TA}
theorem ev_callX {R : List D → Rs → Prop} {ds : List D} {x : T} {E : XK} (ha : EvA K t Γ ds) (hp : R ds (.ok (.t x))) : Ev K (tCall (spX K R) [] E t) Γ x := fun H0 A σ H Q EE q =>
  ha H0 A σ H _ EE fun vs H1 s1 r1 => ⟨ds, _, hp, by rw [List.append_nil]; exact r1, fun v H2 s2 r2 => q v H2 (s1.trans s2) r2⟩
theorem evf_callX {R : List D → Rs → Prop} {ds : List D} {xs : List T} {E : XK} (ha : EvA K t Γ ds) (hp : R ds (.ok (.l xs))) : EvF K (tCall (spX K R) [] E t) Γ xs := fun H0 A σ H Q EE q =>
  ha H0 A σ H _ EE fun vs H1 s1 r1 => ⟨ds, _, hp, by rw [List.append_nil]; exact r1, fun v H2 s2 r2 => by
    obtain ⟨p, ws, rfl, n, e, r⟩ := r2
    exact q p ws H2 (s1.free n) (s1.trans s2) e r⟩
theorem eve_callX {R : List D → Rs → Prop} {ds : List D} {C : Addr} {E : XK} (ha : EvA K t Γ ds) (hp : R ds (.er C)) : EvE K (fun cls d _ H => E cls d H) (tCall (spX K R) [] E t) Γ C := fun H0 A σ H Q EE q =>
  ha H0 A σ H _ EE fun vs H1 s1 r1 => ⟨ds, _, hp, by rw [List.append_nil]; exact r1, fun H2 s2 => q H2 (s1.trans s2)⟩
/-! in a try -/
theorem ev_callS {R : List D → Rs → Prop} {ds : List D} {x : T} {E : L2.St → XK} (ha : EvA K t Γ ds) (hp : R ds (.ok (.t x))) : Ev K (tCallS (spX K R) E t) Γ x := fun H0 A σ H Q EE q =>
  ha H0 A σ H _ EE fun vs H1 s1 r1 => ⟨ds, _, hp, r1, fun v H2 s2 r2 => q v H2 (s1.trans s2) r2⟩
theorem evf_callS {R : List D → Rs → Prop} {ds : List D} {xs : List T} {E : L2.St → XK} (ha : EvA K t Γ ds) (hp : R ds (.ok (.l xs))) : EvF K (tCallS (spX K R) E t) Γ xs := fun H0 A σ H Q EE q =>
  ha H0 A σ H _ EE fun vs H1 s1 r1 => ⟨ds, _, hp, r1, fun v H2 s2 r2 => by
    obtain ⟨p, ws, rfl, n, e, r⟩ := r2
    exact q p ws H2 (s1.free n) (s1.trans s2) e r⟩
theorem eve_callS {R : List D → Rs → Prop} {ds : List D} {C : Addr} (ha : EvA K t Γ ds) (hp : R ds (.er C)) : EvE K W (tCallS (spX K R) (WE W) t) Γ C := fun H0 A σ H Q EE q =>
  ha H0 A σ H _ EE fun vs H1 s1 r1 => ⟨ds, _, hp, r1, fun H2 s2 => q H2 (s1.trans s2)⟩
theorem sv_retE {te : TE} {C : Addr} (h : EvE K W te Γ C) (hr : P.er C Γ) : Sv K W (tRet te) Γ P := fun H0 A σ H E hE M =>
  h H0 A σ H _ hE fun H1 s => M.er C Γ A σ H1 hr (hE.mono s) (.of_same s)
theorem sv_dropE {te : TE} {C : Addr} (h : EvE K W te Γ C) (hr : P.er C Γ) : Sv K W (tDrop te) Γ P := fun H0 A σ H E hE M =>
  h H0 A σ H _ hE fun H1 s => M.er C Γ A σ H1 hr (hE.mono s) (.of_same s)
theorem sv_asgE {te : TE} {g : TG} {C : Addr} (h : EvE K W te Γ C) (hr : P.er C Γ) : Sv K W (tAsg te g) Γ P := fun H0 A σ H E hE M =>
  h H0 A σ H _ hE fun H1 s => M.er C Γ A σ H1 hr (hE.mono s) (.of_same s)
/-- try: .. except c as n (slot i): R C G: what is known where C is raised -/
theorem sv_tryAs {c : Value} {i : Nat} {tb : WX → TS} {ts : Addr → Value → Option Addr → TS} {Wout : WX} (R : Addr → List D → Prop) (hb : ∀ W', Sv K W' (tb W') Γ { P with er := R })
    (hc : ∀ C G, R C G → PySem.W.exmOne K (.ref C) c = some true) (hs : ∀ C G a, R C G → Sv K W0 (ts a (.ref C) none) (G.set i (.rf a)) { nx := fun G' => P.nx (G'.set i .no), rt := P.rt, bk := fun G' => P.bk (G'.set i .no), ct := fun G' => P.ct (G'.set i .no) }) :
    Sv K Wout (fun D σ H => tb (wAs K c i ts Wout D) D σ H) Γ P := fun H0 A σ H E hE M =>
  hb _ H0 A σ H E hE ⟨M.nx, M.rt, M.bk, M.ct, fun C G B σ1 H1 hR e g => ⟨true, hc C G hR, fun _ a _ => by
    have e2 : EnvD K H0 H1 (σ1.set i (some (.ref a))) (G.set i (.rf a)) B := e.put (fun _ z => nomatch z) rfl
    have g2 : Go Γ A H (G.set i (.rf a)) B H1 := g.trans (Go.put fun _ z => nomatch z)
    have gw : ∀ {G1 B1 H3}, Go (G.set i (.rf a)) B H1 G1 B1 H3 → Go Γ A H (G1.set i .no) B1 H3 := fun gg => (g2.trans gg).trans (Go.put fun _ z => nomatch z)
    exact hs C G a hR H0 B _ H1 _ e2 ⟨fun G' B' σ' H' p e' gg => M.nx _ B' _ H' p (e'.wipe1 i) (gw gg), M.rt, fun G' B' σ' H' p e' gg => M.bk _ B' _ H' p (e'.wipe1 i) (gw gg), fun G' B' σ' H' p e' gg => M.ct _ B' _ H' p (e'.wipe1 i) (gw gg), fun _ _ _ _ _ z => z.elim⟩,
    fun z => nomatch z⟩⟩
theorem sv_tryOnly {c : Value} {tb : WX → TS} {ts : Addr → Value → Option Addr → TS} {Wout : WX} (R : Addr → List D → Prop) (hb : ∀ W', Sv K W' (tb W') Γ { P with er := R })
    (hc : ∀ C G, R C G → PySem.W.exmOne K (.ref C) c = some true) (hs : ∀ C G a, R C G → Sv K W0 (ts a (.ref C) none) G { P with er := fun _ _ => False }) :
    Sv K Wout (fun D σ H => tb (wOnly K c ts Wout D) D σ H) Γ P := fun H0 A σ H E hE M =>
  hb _ H0 A σ H E hE ⟨M.nx, M.rt, M.bk, M.ct, fun C G B σ1 H1 hR e g => ⟨true, hc C G hR, fun _ a _ =>
    hs C G a hR H0 B σ1 H1 E e ⟨fun G' B' σ' H' p e' gg => M.nx _ B' _ H' p e' (g.trans gg), M.rt, fun G' B' σ' H' p e' gg => M.bk _ B' _ H' p e' (g.trans gg), fun G' B' σ' H' p e' gg => M.ct _ B' _ H' p e' (g.trans gg), fun _ _ _ _ _ z => z.elim⟩,
    fun z => nomatch z⟩⟩
/-- isinstance(e, c), e what the suite holds -/
theorem ev_isE {i : Nat} {a C : Addr} {c : V} {cv : Value} {b : Bool} (h : Γ[i]? = some (.rf a)) (hc : ∀ u, RelV c u → u = cv) (k : PySem.W.kitOne K (.ref C) cv = some b) : Ev K (tCB (rIsE K C a) (tCons (tVar i) (tCons (tC c) tNil))) Γ (.bl b) := fun H0 A σ H Q E q =>
  ⟨_, E.rv h, c, cv, b, rfl, hc, k, q _ H (Same.refl H) (.bl b)⟩
/-- isinstance(x, c) of data -/
theorem ev_isi {te : TE} {x : T} {c : V} {u : Value} {b : Bool} (h : Ev K te Γ x) (hc : ClsV c u) (k : ∀ v H, Rp K H v x → ∃ t, TyX K H v t ∧ PySem.W.kitOne K t u = some b) : Ev K (tCB (rIsi K) (tCons te (tCons (tC c) tNil))) Γ (.bl b) := fun H0 A σ H Q E q =>
  h H0 A σ H _ E fun v H1 s r => by
    obtain ⟨t, ty, kk⟩ := k v H1 r
    exact ⟨v, c, t, u, b, rfl, hc, ty, kk, q _ H1 s (.bl b)⟩
end
end Cz

namespace Cz
open PySem PySem.Spec PyProof.Rows L2

/-! ### rows and tables -/
structure Row where
  x : Int
  y : Int
  z : Int
  deriving DecidableEq
structure Mat where
  a : Row
  b : Row
  c : Row
  deriving DecidableEq
theorem Row.ext' {r s : Row} (h1 : r.x = s.x) (h2 : r.y = s.y) (h3 : r.z = s.z) : r = s := by
  cases r; cases s; simp_all
theorem Mat.ext' {m n : Mat} (h1 : m.a = n.a) (h2 : m.b = n.b) (h3 : m.c = n.c) : m = n := by
  cases m; cases n; simp_all
def dot (r s : Row) : Int := r.x * s.x + r.y * s.y + r.z * s.z
def cross (r s : Row) : Row := ⟨r.y * s.z - r.z * s.y, r.z * s.x - r.x * s.z, r.x * s.y - r.y * s.x⟩
def Mat.tr (m : Mat) : Mat := ⟨⟨m.a.x, m.b.x, m.c.x⟩, ⟨m.a.y, m.b.y, m.c.y⟩, ⟨m.a.z, m.b.z, m.c.z⟩⟩
def image (m : Mat) (r : Row) : Row := ⟨dot m.a r, dot m.b r, dot m.c r⟩
def mul (m n : Mat) : Mat := ⟨image n.tr m.a, image n.tr m.b, image n.tr m.c⟩
def det (m : Mat) : Int := dot (cross m.a m.b) m.c
def adj (m : Mat) : Mat := Mat.tr ⟨cross m.b m.c, cross m.c m.a, cross m.a m.b⟩
def one : Mat := ⟨⟨1, 0, 0⟩, ⟨0, 1, 0⟩, ⟨0, 0, 1⟩⟩
def smul (k : Int) (m : Mat) : Mat := ⟨⟨k * m.a.x, k * m.a.y, k * m.a.z⟩, ⟨k * m.b.x, k * m.b.y, k * m.b.z⟩, ⟨k * m.c.x, k * m.c.y, k * m.c.z⟩⟩
theorem image_mul (m n : Mat) (r : Row) : image (mul m n) r = image m (image n r) := by
  apply Row.ext' <;> (simp only [image, mul, Mat.tr, dot]; grind)
theorem mul_assoc (m n k : Mat) : mul (mul m n) k = mul m (mul n k) := by
  apply Mat.ext' <;> apply Row.ext' <;> (simp only [image, mul, Mat.tr, dot]; grind)
theorem det_mul (m n : Mat) : det (mul m n) = det m * det n := by
  simp only [image, mul, Mat.tr, dot, det, cross]; grind
theorem mul_one' (m : Mat) : mul m one = m := by
  apply Mat.ext' <;> apply Row.ext' <;> (simp only [image, mul, Mat.tr, dot, one]; grind)
theorem one_mul' (m : Mat) : mul one m = m := by
  apply Mat.ext' <;> apply Row.ext' <;> (simp only [image, mul, Mat.tr, dot, one]; grind)
theorem mul_adj (m : Mat) : mul m (adj m) = smul (det m) one := by
  apply Mat.ext' <;> apply Row.ext' <;> (simp only [image, mul, Mat.tr, dot, one, adj, smul, det, cross]; grind)
theorem adj_mul (m : Mat) : mul (adj m) m = smul (det m) one := by
  apply Mat.ext' <;> apply Row.ext' <;> (simp only [image, mul, Mat.tr, dot, one, adj, smul, det, cross]; grind)
theorem image_one (r : Row) : image one r = r := by
  apply Row.ext' <;> (simp only [image, dot, one]; grind)

/-! ### sizes -/
theorem Sm.of {x : Int} (n : Nat) (h : x.natAbs < 2 ^ n) : Sm n x := h
theorem Sm.add' {n m : Nat} {x y : Int} (h : Sm n x) (k : Sm m y) : Sm (n + m + 1) (x + y) := (h.add k).mono (by omega)
theorem Sm.sub' {n m : Nat} {x y : Int} (h : Sm n x) (k : Sm m y) : Sm (n + m + 1) (x - y) := (h.sub k).mono (by omega)
theorem Sm.add2 {n : Nat} {x y : Int} (h : Sm n x) (k : Sm n y) : Sm (n + 1) (x + y) := (h.add k).mono (by omega)
theorem Sm.sub2 {n : Nat} {x y : Int} (h : Sm n x) (k : Sm n y) : Sm (n + 1) (x - y) := (h.sub k).mono (by omega)
structure Row.sm (n : Nat) (r : Row) : Prop where
  x : Sm n r.x
  y : Sm n r.y
  z : Sm n r.z
structure Mat.sm (n : Nat) (m : Mat) : Prop where
  a : m.a.sm n
  b : m.b.sm n
  c : m.c.sm n
theorem Row.sm.mono {n m : Nat} {r : Row} (h : r.sm n) (k : n ≤ m) : r.sm m := ⟨h.x.mono k, h.y.mono k, h.z.mono k⟩
theorem Mat.sm.mono {n m : Nat} {r : Mat} (h : r.sm n) (k : n ≤ m) : r.sm m := ⟨h.a.mono k, h.b.mono k, h.c.mono k⟩
theorem sm_dot {n m : Nat} {r s : Row} (h : r.sm n) (k : s.sm m) : Sm (n + m + 2) (dot r s) := ((h.x.mul k.x).add2 (h.y.mul k.y)).add2 ((h.z.mul k.z).mono (Nat.le_succ _))
theorem sm_cross {n m : Nat} {r s : Row} (h : r.sm n) (k : s.sm m) : (cross r s).sm (n + m + 1) := ⟨(h.y.mul k.z).sub2 (h.z.mul k.y), (h.z.mul k.x).sub2 (h.x.mul k.z), (h.x.mul k.y).sub2 (h.y.mul k.x)⟩
theorem sm_image {n k : Nat} {m : Mat} {r : Row} (h : m.sm n) (q : r.sm k) : (image m r).sm (n + k + 2) := ⟨sm_dot h.a q, sm_dot h.b q, sm_dot h.c q⟩
theorem sm_tr {n : Nat} {m : Mat} (h : m.sm n) : m.tr.sm n := ⟨⟨h.a.x, h.b.x, h.c.x⟩, ⟨h.a.y, h.b.y, h.c.y⟩, ⟨h.a.z, h.b.z, h.c.z⟩⟩
theorem sm_mul {n k : Nat} {m q : Mat} (h : m.sm n) (g : q.sm k) : (mul m q).sm (n + k + 2) := by
  have e : k + n + 2 = n + k + 2 := by omega
  exact ⟨e ▸ sm_image (sm_tr g) h.a, e ▸ sm_image (sm_tr g) h.b, e ▸ sm_image (sm_tr g) h.c⟩
theorem sm_det {n : Nat} {m : Mat} (h : m.sm n) : Sm (3 * n + 3) (det m) := (sm_dot (sm_cross h.a h.b) h.c).mono (by omega)
theorem sm_adj {n : Nat} {m : Mat} (h : m.sm n) : (adj m).sm (2 * n + 1) := sm_tr ⟨(sm_cross h.b h.c).mono (by omega), (sm_cross h.c h.a).mono (by omega), (sm_cross h.a h.b).mono (by omega)⟩

/-! ### their data -/
abbrev row (r : Row) : T := .tup [.int r.x, .int r.y, .int r.z]
abbrev mat (m : Mat) : T := .tup [row m.a, row m.b, row m.c]
def intsT (ns : List Int) : List T := ns.map T.int
theorem intsT_at {ns : List Int} {i : Nat} {n : Int} (h : ns[i]? = some n) : (intsT ns)[i]? = some (.int n) := by unfold intsT; rw [List.getElem?_map, h]; rfl
theorem intsT_len (ns : List Int) : (intsT ns).length = ns.length := by unfold intsT; rw [List.length_map]
section
variable {K : PySem.W.Frag} {Γ : List D} {W : WX} {P : Po}
/-- items of a display -/
def EvTs (K : PySem.W.Frag) (t : TA) (Γ : List D) (ts : List T) : Prop := EvA K t Γ (ts.map D.t)
theorem evt_nil : EvTs K tNil Γ [] := eva_nil
theorem evt_cons {ta : TE} {tr : TA} {x : T} {xs : List T} (h : Ev K ta Γ x) (k : EvTs K tr Γ xs) : EvTs K (tCons ta tr) Γ (x :: xs) := eva_t h k
theorem ev_tups {t : TA} {ts : List T} (h : EvTs K t Γ ts) (z : ts.length ≤ 1000) : Ev K (tTup t) Γ (.tup ts) := ev_tup ts h rfl z
theorem evf_lsts {t : TA} {ts : List T} (h : EvTs K t Γ ts) (z : ts.length ≤ 1000) : EvF K (tLst t) Γ ts := evf_lst ts h rfl z
theorem ev_row {ta tb tc : TE} {a b c : Int} (h1 : Ev K ta Γ (.int a)) (h2 : Ev K tb Γ (.int b)) (h3 : Ev K tc Γ (.int c)) : Ev K (tTup (tCons ta (tCons tb (tCons tc tNil)))) Γ (row ⟨a, b, c⟩) :=
  ev_tups (evt_cons h1 (evt_cons h2 (evt_cons h3 evt_nil))) (by show 3 ≤ 1000; decide)
theorem ev_mat {ta tb tc : TE} {a b c : Row} (h1 : Ev K ta Γ (row a)) (h2 : Ev K tb Γ (row b)) (h3 : Ev K tc Γ (row c)) : Ev K (tTup (tCons ta (tCons tb (tCons tc tNil)))) Γ (mat ⟨a, b, c⟩) :=
  ev_tups (evt_cons h1 (evt_cons h2 (evt_cons h3 evt_nil))) (by show 3 ≤ 1000; decide)
/-- a, b = x, y -/
theorem sv_par2 {ta tb : TE} {i j : Nat} {x y : T} (h1 : Ev K ta Γ x) (h2 : Ev K tb Γ y) (n : P.nx ((Γ.set i (.t x)).set j (.t y))) : Sv K W (tPar i j (tCons ta (tCons tb tNil))) Γ P := fun H0 A σ H E hE M =>
  h1 H0 A σ H _ hE fun v H1 s1 r1 => h2 H0 A σ H1 _ (hE.mono s1) fun w H2 s2 r2 =>
    ⟨v, w, rfl, M.nx _ _ _ H2 n ((((hE.mono s1).mono s2).setT (Rp.mono (Imm.of_same s2) r1)).setT r2) ((Go.setT.trans Go.setT).same_then (s1.trans s2))⟩
theorem sv_par3 {ta tb tc : TE} {i j l : Nat} {x y z : T} (h1 : Ev K ta Γ x) (h2 : Ev K tb Γ y) (h3 : Ev K tc Γ z) (n : P.nx (((Γ.set i (.t x)).set j (.t y)).set l (.t z))) : Sv K W (tPar3 i j l (tCons ta (tCons tb (tCons tc tNil)))) Γ P := fun H0 A σ H E hE M =>
  h1 H0 A σ H _ hE fun v H1 s1 r1 => h2 H0 A σ H1 _ (hE.mono s1) fun w H2 s2 r2 => h3 H0 A σ H2 _ ((hE.mono s1).mono s2) fun u H3 s3 r3 =>
    ⟨v, w, u, rfl, M.nx _ _ _ H3 n ((((((hE.mono s1).mono s2).mono s3).setT (Rp.mono (Imm.of_same (s2.trans s3)) r1)).setT (Rp.mono (Imm.of_same s3) r2)).setT r3) (((Go.setT.trans Go.setT).trans Go.setT).same_then (s1.trans (s2.trans s3)))⟩
end

/-! ### short loops; a table of lists with one item set -/
section
variable {K : PySem.W.Frag} {Γ : List D} {W : WX} {P : Po}
/-- for k in range(3) -/
theorem sv_range3 {k : Nat} {tb : TS} {G1 G2 G3 : List D} (h0 : Sv K W tb (Γ.set k (.t (.int 0))) { P with nx := fun G => G = G1, ct := fun G => G = G1, bk := P.nx }) (h1 : Sv K W tb (G1.set k (.t (.int 1))) { P with nx := fun G => G = G2, ct := fun G => G = G2, bk := P.nx })
    (h2 : Sv K W tb (G2.set k (.t (.int 2))) { P with nx := fun G => G = G3, ct := fun G => G = G3, bk := P.nx }) (n : P.nx G3) : Sv K W (tFor (iRng1 (tCons (tC (.int 3)) tNil)) (gName k) tb) Γ P :=
  sv_range1 (n := 3) (fun i G => G = match i with | 0 => Γ | 1 => G1 | 2 => G2 | _ => G3) ev_int (by decide) rfl (fun i G hi hG => match i, hi, hG with
    | 0, _, hG => ⟨_, gd_name k _, by rw [hG]; exact h0⟩
    | 1, _, hG => ⟨_, gd_name k _, by rw [hG]; exact h1⟩
    | 2, _, hG => ⟨_, gd_name k _, by rw [hG]; exact h2⟩
    | j + 3, hi, _ => absurd hi (by show ¬ (j + 3 < 3); omega)) (fun G hG => by rw [hG]; exact n)
theorem EvL.put_no {t : TE} {x : T} {L : Nat} (h : Ev K t (Γ.set L .no) x) : Ev K t (Γ.set L .no) x := h
def oneL : List (List T) := [[.int 1, .int 0, .int 0], [.int 0, .int 1, .int 0], [.int 0, .int 0, .int 1]]
def setL (i j : Nat) (v : Int) : List (List T) := oneL.set i ((oneL.getD i []).set j (.int v))
abbrev tInts3 (a b c : Int) : TE := tLst (tCons (tC (.int a)) (tCons (tC (.int b)) (tCons (tC (.int c)) tNil)))
/-- lines = [[1, 0, 0], [0, 1, 0], [0, 0, 1]]; lines[a][b] = v -/
theorem sv_lines {u : TS} {te ta tb : TE} {L : Nat} {a b v : Int} {i j : Nat} (hL : L < Γ.length) (he : Ev K te (Γ.set L .no) (.int v)) (ha : Ev K ta (Γ.set L .no) (.int a)) (hb : Ev K tb (Γ.set L .no) (.int b))
    (hi : ixN 3 a = some i) (hj : ixN 3 b = some j) (k : Sv K W u (Γ.set L (.ll (setL i j v))) P) :
    Sv K W (tSeq (tAsg (tLst (tCons (tInts3 1 0 0) (tCons (tInts3 0 1 0) (tCons (tInts3 0 0 1) tNil)))) (gName L)) (tSeq (tAsg te (gSub (tOp (rIxL K) (tVar L) ta) tb rSetL)) u)) Γ P := fun H0 A σ H E hE M => by
  have z3 : ([V.int 1, V.int 0, V.int 0] : List V).length ≤ sizeLine := by show 3 ≤ sizeLine; decide
  have i3 : i < 3 := (ixN_seq hi).2.1
  refine ⟨by show 3 ≤ sizeLine; decide, fun r0 n0 => ⟨by show 3 ≤ sizeLine; decide, fun r1 n1 => ⟨by show 3 ≤ sizeLine; decide, fun r2 n2 => ⟨by show 3 ≤ sizeLine; decide, fun l nl => ?_⟩⟩⟩⟩
  obtain ⟨H1, e1⟩ : ∃ H1, H1 = upd H r0 (.lst [.int 1, .int 0, .int 0]) := ⟨_, rfl⟩
  rw [← e1] at n1 n2 nl ⊢
  obtain ⟨H2, e2⟩ : ∃ H2, H2 = upd H1 r1 (.lst [.int 0, .int 1, .int 0]) := ⟨_, rfl⟩
  rw [← e2] at n2 nl ⊢
  obtain ⟨H3, e3⟩ : ∃ H3, H3 = upd H2 r2 (.lst [.int 0, .int 0, .int 1]) := ⟨_, rfl⟩
  rw [← e3] at nl ⊢
  obtain ⟨H4, e4⟩ : ∃ H4, H4 = upd H3 l (.lst [.ref r0, .ref r1, .ref r2]) := ⟨_, rfl⟩
  rw [← e4]
  have s1 : Same H H1 := e1 ▸ same_upd n0
  have s2 : Same H1 H2 := e2 ▸ same_upd n1
  have s3 : Same H2 H3 := e3 ▸ same_upd n2
  have s4 : Same H3 H4 := e4 ▸ same_upd nl
  have s04 : Same H H4 := s1.trans (s2.trans (s3.trans s4))
  have q0 : H1 r0 = some (.lst [.int 1, .int 0, .int 0]) := e1 ▸ upd_same
  have q1 : H2 r1 = some (.lst [.int 0, .int 1, .int 0]) := e2 ▸ upd_same
  have q2 : H3 r2 = some (.lst [.int 0, .int 0, .int 1]) := e3 ▸ upd_same
  have ql : H4 l = some (.lst [.ref r0, .ref r1, .ref r2]) := e4 ▸ upd_same
  have q0' : H4 r0 = _ := s4 _ _ (s3 _ _ (s2 _ _ q0))
  have q1' : H4 r1 = _ := s4 _ _ (s3 _ _ q1)
  have q2' : H4 r2 = _ := s4 _ _ q2
  have d01 : r0 ≠ r1 := ne_of_none q0 n1
  have d02 : r0 ≠ r2 := ne_of_none (s2 _ _ q0) n2
  have d12 : r1 ≠ r2 := ne_of_none q1 n2
  have d0l : r0 ≠ l := ne_of_none (s3 _ _ (s2 _ _ q0)) nl
  have d1l : r1 ≠ l := ne_of_none (s3 _ _ q1) nl
  have d2l : r2 ≠ l := ne_of_none q2 nl
  have f0 : H r0 = none := n0
  have f1 : H r1 = none := s1.free n1
  have f2 : H r2 = none := s1.free (s2.free n2)
  have fl : H l = none := s1.free (s2.free (s3.free nl))
  have E4 : EnvD K H0 H4 (σ.set L (some (.ref l))) (Γ.set L .no) A := (hE.mono s04).put (fun _ z => nomatch z) True.intro
  have σL : (σ.set L (some (V.ref l)))[L]? = some (some (.ref l)) := List.getElem?_set_self (by rw [hE.len]; exact hL)
  refine he H0 A _ H4 _ E4 fun w H5 s5 r5 => ?_
  cases r5
  refine ⟨_, σL, ha H0 A _ H5 _ (E4.mono s5) fun w6 H6 s6 r6 => ?_⟩
  cases r6
  have s56 := s5.trans s6
  obtain ⟨p, ws, xs, hp, hpx, hws, fp, pl, wl⟩ : ∃ (p : Addr) (ws : List V) (xs : List T), ([V.ref r0, V.ref r1, V.ref r2])[i]? = some (V.ref p) ∧ H4 p = some (.lst ws) ∧ (∀ G, Rps K G ws (oneL.getD i [])) ∧ H p = none ∧ p ≠ l ∧ ws.length = 3 := by
    match i, i3 with
    | 0, _ => exact ⟨r0, _, oneL.getD 0 [], rfl, q0', fun G => .cons (.int _) (.cons (.int _) (.cons (.int _) .nil)), f0, d0l, rfl⟩
    | 1, _ => exact ⟨r1, _, oneL.getD 1 [], rfl, q1', fun G => .cons (.int _) (.cons (.int _) (.cons (.int _) .nil)), f1, d1l, rfl⟩
    | 2, _ => exact ⟨r2, _, oneL.getD 2 [], rfl, q2', fun G => .cons (.int _) (.cons (.int _) (.cons (.int _) .nil)), f2, d2l, rfl⟩
    | n + 3, h => exact absurd h (by omega)
  refine ⟨l, _, a, .ref p, rfl, rfl, .of (s56 _ _ ql), ?_, ?_⟩
  · unfold L2.atI
    show (ixN 3 a).bind _ = _
    rw [hi]
    exact hp
  refine hb H0 A _ H6 _ (E4.mono s56) fun w7 H7 s7 r7 => ?_
  cases r7
  have s57 := s56.trans s7
  refine ⟨p, ws, b, j, rfl, rfl, s57 _ _ hpx, by rw [wl]; exact hj, ?_⟩
  have sE : Same H (upd H7 p (.lst (ws.set j (.int v)))) := fun c o q => by
    rw [upd_ne (ne_of_none q fp)]
    exact s57 _ _ (s04 _ _ q)
  have noown : ∀ c, H c = none → ¬ IsOwn (Γ.set L (.ll (setL i j v))) A c := fun c n z => by
    obtain ⟨_, vs, y⟩ := hE.own_lst (IsOwn.of_set (d := D.ll (setL i j v)) (fun _ y => by cases y) z)
    rw [n] at y
    cases y
  have EF := (hE.mono sE).put (k := L) (o := some (.ref l)) (d := .ll (setL i j v)) (fun _ z => by cases z) ⟨l, [.ref r0, .ref r1, .ref r2], rfl, ⟨.of (by rw [upd_ne pl.symm]; exact s57 _ _ ql), fun z => absurd z (noown l fl)⟩, by
    have rr : ∀ (c : Addr) (ws' : List V) (n : H c = none), c ≠ p → H4 c = some (.lst ws') → LRd K (upd H7 p (.lst (ws.set j (.int v)))) (IsOwn (Γ.set L (.ll (setL i j v))) A) c ws' := fun c ws' n d q => ⟨.of (by rw [upd_ne d]; exact s57 _ _ q), fun z => absurd z (noown c n)⟩
    have rp : LRd K (upd H7 p (.lst (ws.set j (.int v)))) (IsOwn (Γ.set L (.ll (setL i j v))) A) p (ws.set j (.int v)) := ⟨.of upd_same, fun z => absurd z (noown p fp)⟩
    have rs : Rps K (upd H7 p (.lst (ws.set j (.int v)))) (ws.set j (.int v)) ((oneL.getD i []).set j (.int v)) := Rps.set (.int v) j (hws _)
    unfold setL at *
    match i, i3, hp with
    | 0, _, hp =>
      cases hp
      exact .cons rp rs (.cons (rr r1 _ f1 d01.symm q1') (.cons (.int _) (.cons (.int _) (.cons (.int _) .nil))) (.cons (rr r2 _ f2 d02.symm q2') (.cons (.int _) (.cons (.int _) (.cons (.int _) .nil))) .nil))
    | 1, _, hp =>
      cases hp
      exact .cons (rr r0 _ f0 d01 q0') (.cons (.int _) (.cons (.int _) (.cons (.int _) .nil))) (.cons rp rs (.cons (rr r2 _ f2 d12.symm q2') (.cons (.int _) (.cons (.int _) (.cons (.int _) .nil))) .nil))
    | 2, _, hp =>
      cases hp
      exact .cons (rr r0 _ f0 d02 q0') (.cons (.int _) (.cons (.int _) (.cons (.int _) .nil))) (.cons (rr r1 _ f1 d12 q1') (.cons (.int _) (.cons (.int _) (.cons (.int _) .nil))) (.cons rp rs .nil))
    | n + 3, h, _ => exact absurd h (by omega)⟩
  exact k H0 A _ _ E EF (M.after ((Go.of_same sE).trans (Go.put fun _ z => by cases z)))
end

/-! ### == of such data -/
theorem eqv_int (i j : Int) : PyData.eqv (.int i) (.int j) = decide (i = j) := by simp [PyData.eqv, Bool.beq_eq_decide_eq]
theorem eqv_row (r s : Row) : PyData.eqv (T.py (row r)) (T.py (row s)) = decide (r = s) := by
  show PyData.eqv (.tuple [.int r.x, .int r.y, .int r.z]) (.tuple [.int s.x, .int s.y, .int s.z]) = _
  rw [PyData.eqv]
  simp only [PyData.eqvAll, eqv_int]
  cases r
  cases s
  simp
theorem eqv_mat (m n : Mat) : PyData.eqv (T.py (mat m)) (T.py (mat n)) = decide (m = n) := by
  have e : PyData.eqv (T.py (mat m)) (T.py (mat n)) = (PyData.eqv (T.py (row m.a)) (T.py (row n.a)) && (PyData.eqv (T.py (row m.b)) (T.py (row n.b)) && (PyData.eqv (T.py (row m.c)) (T.py (row n.c)) && true))) := by
    show PyData.eqv (.tuple [T.py (row m.a), T.py (row m.b), T.py (row m.c)]) (.tuple [T.py (row n.a), T.py (row n.b), T.py (row n.c)]) = _
    rw [PyData.eqv]
    simp only [PyData.eqvAll]
  rw [e, eqv_row, eqv_row, eqv_row]
  cases m
  cases n
  simp
theorem pl_row (r : Row) : Pl (row r) := ⟨rfl, by rfl⟩
theorem pl_mat (m : Mat) : Pl (mat m) := ⟨rfl, by rfl⟩
theorem ev_eqR {K : PySem.W.Frag} {Γ : List D} {ta tb : TE} {r s : Row} (h : Ev K ta Γ (row r)) (k : Ev K tb Γ (row s)) : Ev K (tOp (rEqD K) ta tb) Γ (.bl (decide (r = s))) := ev_eq (ev_eqD (pl_row r) (pl_row s) h k) (by rw [eqv_row])
theorem ev_neR {K : PySem.W.Frag} {Γ : List D} {ta tb : TE} {r s : Row} (h : Ev K ta Γ (row r)) (k : Ev K tb Γ (row s)) : Ev K (tOp (rNeD K) ta tb) Γ (.bl (!decide (r = s))) := ev_eq (ev_neD (pl_row r) (pl_row s) h k) (by rw [eqv_row])
theorem ev_eqM {K : PySem.W.Frag} {Γ : List D} {ta tb : TE} {r s : Mat} (h : Ev K ta Γ (mat r)) (k : Ev K tb Γ (mat s)) : Ev K (tOp (rEqD K) ta tb) Γ (.bl (decide (r = s))) := ev_eq (ev_eqD (pl_mat r) (pl_mat s) h k) (by rw [eqv_mat])
theorem ev_neM {K : PySem.W.Frag} {Γ : List D} {ta tb : TE} {r s : Mat} (h : Ev K ta Γ (mat r)) (k : Ev K tb Γ (mat s)) : Ev K (tOp (rNeD K) ta tb) Γ (.bl (!decide (r = s))) := ev_eq (ev_neD (pl_mat r) (pl_mat s) h k) (by rw [eqv_mat])
/-- a draw out of a list by a remainder -/
theorem atI_nat' {ts : List T} {i : Int} {j : Nat} {t : T} (e : i = (j : Int)) (h : ts[j]? = some t) : L2.atI ts i = some t := by
  rw [e]
  exact atI_nat h
end Cz

namespace Cz
open PySem PyProof.Rows L2
theorem lt_ok {n m : Nat} (h : Nat.ble (n + 1) m = true) : n < m := Nat.le_of_ble_eq_true h
theorem le_ok {n m : Nat} (h : Nat.ble n m = true) : n ≤ m := Nat.le_of_ble_eq_true h
instance (n : Nat) (x : Int) : Decidable (Sm n x) := inferInstanceAs (Decidable (x.natAbs < 2 ^ n))
theorem Sm.emod {x m : Int} {n : Nat} (h : 0 < m) (k : m.natAbs ≤ 2 ^ n) : Sm n (x % m) := by
  have h1 := Int.emod_nonneg x (by omega : m ≠ 0)
  have h2 := Int.emod_lt_of_pos x h
  unfold Sm
  omega
theorem Sm.bit {b : Bool} : Sm 1 (if b = true then 1 else 0) := by
  cases b <;> decide
theorem Sm.abs {x : Int} {n : Nat} (h : Sm n x) : Sm n (if x < 0 then -x else x) := by
  unfold Sm at *
  split <;> omega
section
variable {K : PySem.W.Frag} {Γ : List D} {W : WX} {P : Po} {ta tb : TE}
theorem ev_asrow {t : TE} {a b c : Int} (h : Ev K t Γ (.tup [.int a, .int b, .int c])) : Ev K t Γ (row ⟨a, b, c⟩) := h
theorem ev_asmat {t : TE} {a b c : Row} (h : Ev K t Γ (.tup [row a, row b, row c])) : Ev K t Γ (mat ⟨a, b, c⟩) := h
/-! in, not in, of ints -/
theorem inV_ints (i : Int) : ∀ ns : List Int, inV (.int i) (ns.map V.int) = decide (i ∈ ns)
  | [] => by simp [inV]
  | n :: ns => by
    have ih := inV_ints i ns
    unfold inV at *
    rw [List.map_cons, List.any_cons, ih]
    have e : eqV (.int n) (.int i) = decide (i = n) := by
      show (n == i) = decide (i = n)
      rw [Bool.beq_eq_decide_eq]
      by_cases h : n = i
      · subst h; rfl
      · rw [decide_eq_false h, decide_eq_false (fun z => h z.symm)]
    rw [e]
    by_cases h : i = n <;> simp [h]
theorem flat_ints : ∀ ns : List Int, (ns.map V.int).all flatV = true
  | [] => rfl
  | n :: ns => by rw [List.map_cons, List.all_cons, flat_ints ns]; rfl
theorem ev_inT {i : Int} (ns : List Int) (ha : Ev K ta Γ (.int i)) (hb : Ev K tb Γ (.tup (ns.map T.int))) : Ev K (tOp (rIn K false) ta tb) Γ (.bl (decide (i ∈ ns))) :=
  ev_op ha hb fun v w H Q r1 r2 q => by
    cases r1
    cases r2 with
    | tup s r =>
      have e := r.ints_of
      subst e
      refine ⟨_, _, rfl, .inr s, rfl, flat_ints ns, ?_⟩
      show Q (.bl (inV (.int i) (ns.map V.int))) H
      rw [inV_ints]
      exact q _ H (Same.refl H) (.bl _)
theorem ev_notInT {i : Int} (ns : List Int) (ha : Ev K ta Γ (.int i)) (hb : Ev K tb Γ (.tup (ns.map T.int))) : Ev K (tOp (rIn K true) ta tb) Γ (.bl (!decide (i ∈ ns))) :=
  ev_op ha hb fun v w H Q r1 r2 q => by
    cases r1
    cases r2 with
    | tup s r =>
      have e := r.ints_of
      subst e
      refine ⟨_, _, rfl, .inr s, rfl, flat_ints ns, ?_⟩
      show Q (.bl (!inV (.int i) (ns.map V.int))) H
      rw [inV_ints]
      exact q _ H (Same.refl H) (.bl _)
/-! isinstance of data and a built-in type -/
def tyT : T → Option String
  | .non => some "NoneType"
  | .bl _ => some "bool"
  | .int _ => some "int"
  | .str _ => some "str"
  | .tup _ => some "tuple"
  | .obj _ _ _ => none
theorem tyx_of {H : Hp} {v : V} {x : T} {n : String} (r : Rp K H v x) (h : tyT x = some n) : TyX K H v (.type n) := by
  cases r with
  | non => cases h; exact .base .non
  | bl b => cases h; exact .base (.bl b)
  | int i => cases h; exact .base (.int i)
  | str s => cases h; exact .base (.str s)
  | tup s _ =>
    cases h
    rcases s with (s | ⟨o, s⟩) | ⟨o, its, n, k, c, _⟩
    · exact .base (.tup s)
    · exact .fTuple s
    · exact .kTuple k c
  | obj _ _ _ => cases h
theorem ev_isT {te : TE} {x : T} {n m : String} {b : Bool} (h : Ev K te Γ x) (hx : tyT x = some n) (k : kitB n m = some b) : Ev K (tCB (rIsi K) (tCons te (tCons (tC (.ty m)) tNil))) Γ (.bl b) :=
  ev_isi h (.ty m) fun v H r => ⟨_, tyx_of r hx, kit_ty k⟩
/-! lists of ints -/
def dr (ds : List Int) (j : Nat) : Int := ds.getD j 0
theorem dr_get {ds : List Int} {j : Nat} (h : j < ds.length) : ds[j]? = some (dr ds j) := by
  unfold dr
  simp [List.getD, List.getElem?_eq_getElem h]
theorem dr_at {ds : List Int} {j : Nat} {i : Int} (e : i = (j : Int)) (h : j < ds.length) : L2.atI (intsT ds) i = some (.int (dr ds j)) := atI_nat' e (intsT_at (dr_get h))
theorem dr_at' {ds : List Int} {i : Int} (h0 : 0 ≤ i) (h : i.toNat < ds.length) : L2.atI (intsT ds) i = some (.int (dr ds i.toNat)) := dr_at (Int.toNat_of_nonneg h0).symm h
theorem dr_drop (ds : List Int) (k j : Nat) : dr (ds.drop k) j = dr ds (k + j) := by
  unfold dr
  simp [List.getD, List.getElem?_drop]
theorem sIx_from (n k : Nat) (xs : List T) : (xs.drop (HT.sIx xs.length 0 (some (k : Int)))).take (HT.sIx xs.length xs.length none - HT.sIx xs.length 0 (some (k : Int))) = xs.drop k := by
  rw [HT.sIx_nat, HT.sIx_none]
  by_cases h : k ≤ xs.length
  · rw [Nat.min_eq_left h]
    exact List.take_of_length_le (by rw [List.length_drop]; omega)
  · rw [Nat.min_eq_right (by omega), List.drop_eq_nil_of_le (Nat.le_refl _), List.drop_eq_nil_of_le (by omega)]
    simp
theorem cut_from (ds : List Int) (k : Nat) : cutT (intsT ds) (some (k : Int)) none = intsT (ds.drop k) := by
  unfold cutT
  rw [sIx_from 0 k]
  unfold intsT
  rw [List.map_drop]
theorem cut_to (ds : List Int) (k : Nat) : cutT (intsT ds) none (some (k : Int)) = intsT (ds.take k) := by
  unfold cutT
  rw [HT.sIx_none, HT.sIx_nat]
  show ((intsT ds).drop 0).take (min k (intsT ds).length - 0) = _
  rw [List.drop_zero, Nat.sub_zero]
  unfold intsT
  by_cases h : k ≤ (ds.map T.int).length
  · rw [Nat.min_eq_left h, List.map_take]
  · rw [Nat.min_eq_right (by omega), List.take_of_length_le (Nat.le_refl _), List.take_of_length_le (by rw [List.length_map] at h; omega)]
/-! elementary tables -/
def ofL (xss : List (List T)) : T := .tup (xss.map T.tup)
theorem setL_len (i j : Nat) (v : Int) : (setL i j v).length = 3 := by simp [setL, oneL]
def elem (i j : Nat) (v : Int) : Mat :=
  match i, j with
  | 0, 0 => ⟨⟨v, 0, 0⟩, ⟨0, 1, 0⟩, ⟨0, 0, 1⟩⟩ | 0, 1 => ⟨⟨1, v, 0⟩, ⟨0, 1, 0⟩, ⟨0, 0, 1⟩⟩ | 0, _ => ⟨⟨1, 0, v⟩, ⟨0, 1, 0⟩, ⟨0, 0, 1⟩⟩
  | 1, 0 => ⟨⟨1, 0, 0⟩, ⟨v, 1, 0⟩, ⟨0, 0, 1⟩⟩ | 1, 1 => ⟨⟨1, 0, 0⟩, ⟨0, v, 0⟩, ⟨0, 0, 1⟩⟩ | 1, _ => ⟨⟨1, 0, 0⟩, ⟨0, 1, v⟩, ⟨0, 0, 1⟩⟩
  | _, 0 => ⟨⟨1, 0, 0⟩, ⟨0, 1, 0⟩, ⟨v, 0, 1⟩⟩ | _, 1 => ⟨⟨1, 0, 0⟩, ⟨0, 1, 0⟩, ⟨0, v, 1⟩⟩ | _, _ => ⟨⟨1, 0, 0⟩, ⟨0, 1, 0⟩, ⟨0, 0, v⟩⟩
theorem elem_eq {i j : Nat} {v : Int} (hi : i < 3) (hj : j < 3) : T.tup ((setL i j v).map T.tup) = mat (elem i j v) := by
  have h1 : i = 0 ∨ i = 1 ∨ i = 2 := by omega
  have h2 : j = 0 ∨ j = 1 ∨ j = 2 := by omega
  rcases h1 with rfl | rfl | rfl <;> rcases h2 with rfl | rfl | rfl <;> rfl
theorem elem_det {i j : Nat} {v : Int} (hi : i < 3) (hj : j < 3) (h : i ≠ j) : det (elem i j v) = 1 := by
  have h1 : i = 0 ∨ i = 1 ∨ i = 2 := by omega
  have h2 : j = 0 ∨ j = 1 ∨ j = 2 := by omega
  rcases h1 with rfl | rfl | rfl <;> rcases h2 with rfl | rfl | rfl <;> first | exact absurd rfl h | (simp only [elem, det, dot, cross]; grind)
theorem elem_sm {i j : Nat} {v : Int} {n : Nat} (h : Sm n v) (h1 : 1 ≤ n) : (elem i j v).sm n := by
  have o : Sm n (1 : Int) := (Sm.of (x := 1) 1 (by decide)).mono h1
  have z : Sm n (0 : Int) := (Sm.of (x := 0) 1 (by decide)).mono h1
  unfold elem
  split <;> exact ⟨⟨by assumption, by assumption, by assumption⟩, ⟨by assumption, by assumption, by assumption⟩, ⟨by assumption, by assumption, by assumption⟩⟩
theorem one_sm : one.sm 1 := ⟨⟨by decide, by decide, by decide⟩, ⟨by decide, by decide, by decide⟩, ⟨by decide, by decide, by decide⟩⟩
end
end Cz

namespace Cz
open PySem PyProof.Rows L2
/-! ### the draws of a script -/
def itr {α : Type} (f : Nat → α → α) : Nat → α → α
  | 0, s => s
  | n + 1, s => f n (itr f n s)
def absI (x : Int) : Int := if x < 0 then -x else x
def innerStep (_ : Nat) (st : Int × List Int) : Int × List Int := if 0 < st.1 then (st.1 / 1009, st.2 ++ [st.1 % 1009]) else st
def seed1 (s n : Int) : Int := (s * 48271 + n + 11) % 2147483647
def drawStep (st : Int × List Int) (cell : Int) : Int × List Int :=
  if 1000000000000000000 ≤ absI cell then (seed1 st.1 (absI cell), (itr innerStep 60 (absI cell, st.2)).2)
  else (seed1 st.1 (absI cell), st.2 ++ [(seed1 st.1 (absI cell) * 16807 + 5) / 3 % 65521])
def seed2 (s : Int) (k : Nat) : Int := (s * 69621 + k + 1) % 2147483647
def fillStep (many : Nat) (k : Nat) (st : Int × List Int) : Int × List Int :=
  if st.2.length < many then (seed2 st.1 k, st.2 ++ [seed2 st.1 k / 7 % 65521]) else st
def draws1 (ns : List Int) : Int × List Int := ns.foldl drawStep (7, [])
def draws2 (ns : List Int) (many : Nat) : Int × List Int := itr (fillStep many) many (draws1 (ns.take 63))
def drawsM (ns : List Int) (many : Nat) : List Int := (draws2 ns many).2.take many
theorem inner_len (k : Nat) (st : Int × List Int) : (itr innerStep k st).2.length ≤ st.2.length + k := by
  induction k with
  | zero => exact Nat.le_refl _
  | succ k ih =>
    show (innerStep k (itr innerStep k st)).2.length ≤ _
    generalize itr innerStep k st = s at *
    unfold innerStep
    split
    · rw [List.length_append]; show _ + 1 ≤ _; omega
    · omega
theorem seed1_sm (s n : Int) : Sm 32 (seed1 s n) := Sm.emod (by decide) (by decide)
theorem seed2_sm (s : Int) (n : Nat) : Sm 32 (seed2 s n) := Sm.emod (by decide) (by decide)
theorem draw_fst (st : Int × List Int) (c : Int) : (drawStep st c).1 = seed1 st.1 (absI c) := by
  unfold drawStep
  split <;> rfl
theorem draw_len (st : Int × List Int) (c : Int) : (drawStep st c).2.length ≤ st.2.length + 60 := by
  unfold drawStep
  split
  · exact inner_len 60 _
  · rw [List.length_append]; show _ + 1 ≤ _; omega
theorem draws_sm : ∀ (ns : List Int) (st : Int × List Int), Sm 32 st.1 → Sm 32 (ns.foldl drawStep st).1
  | [], _, h => h
  | n :: ns, st, h => draws_sm ns _ (by rw [draw_fst]; exact seed1_sm _ _)
theorem draws_len : ∀ (ns : List Int) (st : Int × List Int), (ns.foldl drawStep st).2.length ≤ st.2.length + 60 * ns.length
  | [], _ => Nat.le_refl _
  | n :: ns, st => by
    have h1 := draws_len ns (drawStep st n)
    have h2 := draw_len st n
    show (ns.foldl drawStep (drawStep st n)).2.length ≤ _
    rw [List.length_cons]
    omega
theorem fill_sm (many k : Nat) {st : Int × List Int} (h : Sm 32 st.1) : Sm 32 (itr (fillStep many) k st).1 := by
  induction k with
  | zero => exact h
  | succ k ih =>
    show Sm 32 (fillStep many k (itr (fillStep many) k st)).1
    generalize itr (fillStep many) k st = s at *
    unfold fillStep
    split
    · exact seed2_sm _ _
    · exact ih
theorem fill_len (many k : Nat) (st : Int × List Int) : (itr (fillStep many) k st).2.length ≤ st.2.length + k ∧ (k ≤ many → k ≤ (itr (fillStep many) k st).2.length ∨ many ≤ (itr (fillStep many) k st).2.length) := by
  induction k with
  | zero => exact ⟨Nat.le_refl _, fun _ => .inl (Nat.zero_le _)⟩
  | succ k ih =>
    show (fillStep many k (itr (fillStep many) k st)).2.length ≤ _ ∧ (_ → _ ≤ (fillStep many k (itr (fillStep many) k st)).2.length ∨ _ ≤ (fillStep many k (itr (fillStep many) k st)).2.length)
    generalize itr (fillStep many) k st = s at *
    unfold fillStep
    split
    · rw [List.length_append]
      refine ⟨by show _ + 1 ≤ _; omega, fun h => .inl ?_⟩
      show k + 1 ≤ _ + 1
      rcases ih.2 (by omega) with h | h <;> omega
    · exact ⟨by omega, fun h => .inr (by omega)⟩
theorem drawsM_len (ns : List Int) (many : Nat) : (drawsM ns many).length = many := by
  unfold drawsM
  rw [List.length_take]
  rcases (fill_len many many (draws1 (ns.take 63))).2 (Nat.le_refl _) with h | h <;> exact Nat.min_eq_left h
theorem intsT_at' {ns : List Int} {i : Nat} {x : T} (h : (intsT ns)[i]? = some x) : ∃ n, ns[i]? = some n ∧ x = .int n := by
  unfold intsT at h
  rw [List.getElem?_map] at h
  cases e : ns[i]? with
  | none => rw [e] at h; cases h
  | some n => rw [e] at h; exact ⟨n, rfl, (Option.some.inj h).symm⟩
theorem intsT_snoc (ns : List Int) (n : Int) : intsT ns ++ [T.int n] = intsT (ns ++ [n]) := by unfold intsT; rw [List.map_append]; rfl
end Cz

namespace Cz
open PySem PySem.Spec PyProof.Rows L2
/-! ### rules of HandS with the written part named: within a comprehension the context is another one at each turn, its written part is not -/
section
variable {X : Cx} {a b e : Expr} {ta tb te : TE} {pos p p2 : Pos}
theorem pk_ixT (K : PySem.W.Frag) (ha : PE X a ta) (hb : PE X b tb) (hs : PlainIx b) (hK : X.K = K := by rfl) : PE X (.Subscript a b pos) (tOp (rIxT K) ta tb) := by subst hK; exact pe_ix ix_tup ha hb hs
theorem pk_ixL (K : PySem.W.Frag) (ha : PE X a ta) (hb : PE X b tb) (hs : PlainIx b) (hK : X.K = K := by rfl) : PE X (.Subscript a b pos) (tOp (rIxL K) ta tb) := by subst hK; exact pe_ix ix_list ha hb hs
theorem pk_slL (K : PySem.W.Frag) {lo hi : Option Expr} {tl th : TO} (he : PE X e te) (hl : PO X lo tl) (hu : PO X hi th) (hK : X.K = K := by rfl) : PE X (.Subscript e (.Slice lo hi none p2) pos) (tSl (rSlL K) te tl th) := by subst hK; exact pe_slice sl_list he hl hu
theorem pk_slT (K : PySem.W.Frag) {lo hi : Option Expr} {tl th : TO} (he : PE X e te) (hl : PO X lo tl) (hu : PO X hi th) (hK : X.K = K := by rfl) : PE X (.Subscript e (.Slice lo hi none p2) pos) (tSl (rSlT K) te tl th) := by subst hK; exact pe_slice sl_tup he hl hu
theorem pk_tupleOf (K : PySem.W.Frag) (hg : Gl X "tuple") (hm : X.mg "tuple" = none) (ha : PE X a ta) (na : starEach [a] X.env = (false, eval a X.env) :: starEach [] X.env := by rfl) (hK : X.K = K := by rfl) :
    PE X (.Call (.Name "tuple" p) [a] [] pos) (tThen ta (kTup K)) := by subst hK; exact pe_tupleOf hg hm ha na
theorem pk_fld (K : PySem.W.Frag) {f : Str} (he : PE X e ta) (hb : attributeBase e f X.env (eval e X.env) = eval e X.env) (hK : X.K = K := by rfl) : PE X (.Attribute e f pos) (tFld K ta f) := by subst hK; exact pe_fld he hb
theorem pki_list (K : PySem.W.Frag) {tg l : Expr} {tl : TE} (hl : PE X l tl) (hK : X.K = K := by rfl) : PI X tg l (iList K tl) := by subst hK; exact pi_list hl
theorem pki_tup (K : PySem.W.Frag) {tg l : Expr} {tl : TE} (hl : PE X l tl) (hK : X.K = K := by rfl) : PI X tg l (iTup K tl) := by subst hK; exact pi_tup hl
theorem opk_eqD (K : PySem.W.Frag) (hu : X.A.units + 64 < cLine) (hK : X.K = K := by rfl) : OpR X (compareOp .Eq) (rEqD K) := by subst hK; exact op_eqD hu
theorem opk_neD (K : PySem.W.Frag) (hu : X.A.units + 64 < cLine) (hK : X.K = K := by rfl) : OpR X (compareOp .NotEq) (rNeD K) := by subst hK; exact op_neD hu
theorem opk_in (K : PySem.W.Frag) (hK : X.K = K := by rfl) : OpR X (compareOp .In) (rIn K false) := by subst hK; exact op_in_seq
theorem opk_notIn (K : PySem.W.Frag) (hK : X.K = K := by rfl) : OpR X (compareOp .NotIn) (rIn K true) := by subst hK; exact op_notIn_seq
theorem ck_len (K : PySem.W.Frag) (hK : X.K = K := by rfl) : CallR X (.builtin "len") (fun xs H Q => ∃ p ys, xs = [.ref p] ∧ (SqL K H p ys ∨ SqT K H p ys) ∧ Q (.int ys.length) H) := by subst hK; exact call_len_seq
theorem ck_isi (K : PySem.W.Frag) (hK : X.K = K := by rfl) : CallR X (.builtin "isinstance") (rIsi K) := by subst hK; exact call_isi
theorem ck_sum (K : PySem.W.Frag) (hc : X.calm = true) (hK : X.K = K := by rfl) : CallR X (.builtin "sum") (rSum K) := by subst hK; exact cr_sum hc
theorem ck_max (K : PySem.W.Frag) (hc : X.calm = true) (hK : X.K = K := by rfl) : CallR X (.builtin "max") (rMax K) := by subst hK; exact cr_max hc
theorem ck_min (K : PySem.W.Frag) (hc : X.calm = true) (hK : X.K = K := by rfl) : CallR X (.builtin "min") (rMin K) := by subst hK; exact cr_min hc
theorem ck_any (K : PySem.W.Frag) (hc : X.calm = true) (hK : X.K = K := by rfl) : CallR X (.builtin "any") (rAny K) := by subst hK; exact cr_any hc
theorem ck_all (K : PySem.W.Frag) (hc : X.calm = true) (hK : X.K = K := by rfl) : CallR X (.builtin "all") (rAll K) := by subst hK; exact cr_all hc
theorem pgk_tup (K : PySem.W.Frag) {es : List Expr} {k : Nat} {t : TGs} {n : Nat} (hc : X.calm = true) (h : PGs X es t) (hn : (assignEach es X.env).length = n := by rfl) (hst : (assignEach es X.env).findIdx? (·.1) = none := by rfl) (hK : X.K = K := by rfl) : PG X (.Tuple es k pos) (gTup K n t) := by subst hK; exact pg_tup hc h hn hst
end
end Cz
namespace Cz
open PySem PySem.Spec PyProof.Rows L2
/-! ### a suite that is only for instances of one class -/
def tCls (c : Value) (t : Addr → TS) : Addr → Value → Option Addr → TS := fun a cls d D σ H => cls = c ∧ d = none ∧ t a D σ H
theorem pss_cls {X : Cx} {sts : List Stmt} {t : Addr → TS} {a : Addr} {c cls : Value} {d : Option Addr} (h : cls = c → d = none → PSs X sts (t a)) : PSs X sts (tCls c t a cls d) := ⟨fun pins s σ H D I q => by
  obtain ⟨e1, e2, q⟩ := q
  exact (h e1 e2).run pins s σ H D I q⟩
theorem sv_cls {K : PySem.W.Frag} {W : WX} {Γ : List D} {P : Po} {t : Addr → TS} {a : Addr} {c : Value} (h : Sv K W (t a) Γ P) : Sv K W (tCls c t a c none) Γ P := fun H0 A σ H E hE M => ⟨rfl, rfl, h H0 A σ H E hE M⟩
end Cz
namespace Cz
open PySem PySem.Spec PyProof.Rows L2
/-! ### isinstance of an own error: what kitOne says -/
theorem ref_beq (a b : Addr) : ((Value.ref a == Value.ref b) = true) ↔ a = b := ⟨fun h => Value.ref.inj (beq_iff_eq.mp h), fun h => by rw [h]; exact beq_self_eq_true _⟩
theorem kit_ref {K : PySem.W.Frag} {A B : Addr} {b : Bool} (hA : PySem.W.subIn K (.ref A) (.ref A) = some true) (h : PySem.W.subIn K (.ref A) (.ref B) = some b) (hd : PySem.W.hasDictIn K B = true) (ht : PySem.W.typeIn K (.ref B) = some (.type "type")) : PySem.W.kitOne K (.ref A) (.ref B) = some b := by
  unfold PySem.W.kitOne
  by_cases e : A = B
  · subst e
    rw [if_pos (beq_self_eq_true _), ← hA, h]
  · rw [if_neg (fun z => e ((ref_beq A B).mp z))]
    obtain ⟨cd, hc, _⟩ := PySem.W.any_some hd
    show (if ((PySem.W.clsIn K B).isSome && PySem.W.typeIn K (.ref B) == some (.type "type")) = true then PySem.W.subIn K (.ref A) (.ref B) else none) = some b
    rw [if_pos (by rw [hc, ht] <;> rfl)]
    exact h
theorem kit_typ {K : PySem.W.Frag} {A : Addr} {n : String} {b : Bool} (h : PySem.W.subIn K (.ref A) (.type n) = some b) (hm : PySem.W.kitMeta n = true) : PySem.W.kitOne K (.ref A) (.type n) = some b := by
  unfold PySem.W.kitOne
  rw [if_neg (by intro z; cases beq_iff_eq.mp z)]
  show (if PySem.W.kitMeta n = true then PySem.W.subIn K (.ref A) (.type n) else none) = some b
  rw [if_pos hm]
  exact h
end Cz

namespace Cz
open PySem PySem.Spec PyProof.Rows L2
/-! ### instances -/
section
variable {K : PySem.W.Frag} {Γ : List D} {W : WX} {P : Po}
theorem fld_lookup : ∀ {fs : List (Str × V)} {ns : List Str} {k : Nat} {f : Str} {v : V}, fs.map (·.1) = ns → ns[k]? = some f → (ns.take k).all (fun n => !decide (n = f)) = true → (fs.map (·.2))[k]? = some v → fs.lookup f = some v
  | [], _, k, f, v, e, h, _, _ => by subst e; simp at h
  | (n, w) :: fs, _, 0, f, v, e, h, _, hv => by
    subst e
    have h1 : n = f := by simpa using h
    have h2 : w = v := by simpa using hv
    subst h1 h2
    simp [List.lookup]
  | (n, w) :: fs, _, k + 1, f, v, e, h, ha, hv => by
    subst e
    have h1 : (n :: (fs.map (·.1)).take k).all (fun n => !decide (n = f)) = true := ha
    rw [List.all_cons, Bool.and_eq_true] at h1
    have hn : ¬ n = f := by simpa using h1.1
    have ih := fld_lookup (fs := fs) (k := k) (f := f) (v := v) rfl (by simpa using h) h1.2 (by simpa using hv)
    have e2 : (f == n) = false := by simpa using fun z : f = n => hn z.symm
    simp [List.lookup, e2, ih]
theorem fld_none : ∀ {fs : List (Str × V)} {ns : List Str} {f : Str}, fs.map (·.1) = ns → ns.all (fun n => !decide (n = f)) = true → fs.lookup f = none
  | [], _, _, _, _ => rfl
  | (n, w) :: fs, _, f, e, ha => by
    subst e
    have h1 : (n :: (fs.map (·.1))).all (fun n => !decide (n = f)) = true := ha
    rw [List.all_cons, Bool.and_eq_true] at h1
    have hn : ¬ n = f := by simpa using h1.1
    have ih := fld_none (fs := fs) (f := f) rfl h1.2
    have e2 : (f == n) = false := by simpa using fun z : f = n => hn z.symm
    simp [List.lookup, e2, ih]
/-- o.f -/
theorem ev_fld {ta : TE} {C : Addr} {ns : List Str} {ts : List T} {f : Str} {x : T} (k : Nat) (h : Ev K ta Γ (.obj C ns ts)) (c : Cls K C) (n : NoAttr K C f) (h1 : ns[k]? = some f) (h2 : (ns.take k).all (fun n => !decide (n = f)) = true) (h3 : ts[k]? = some x) : Ev K (tFld K ta f) Γ x := fun H0 A σ H Q E q =>
  h H0 A σ H _ E fun v H1 s r => by
    cases r with
    | obj e en rs =>
      obtain ⟨w, hw, rw'⟩ := rs.get h3
      exact ⟨_, _, _, _, w, rfl, e, c, n, fld_lookup en h1 h2 hw, q w H1 s rw'⟩
/-- o.m(..) -/
theorem ev_meth {ta : TE} {C : Addr} {ns : List Str} {ts : List T} {m : Str} {t : TA} {ds : List D} {x : T} {R : List D → D → Prop} {Ex : XK} (h : Ev K ta Γ (.obj C ns ts)) (hm : ns.all (fun n => !decide (n = m)) = true) (ha : EvA K t Γ ds) (hp : R (.t (.obj C ns ts) :: ds) (.t x)) :
    Ev K (tMeth C m (spD K R) [] Ex ta t) Γ x := fun H0 A σ H Q E q =>
  h H0 A σ H _ E fun v H1 s1 r1 => by
    cases r1 with
    | obj e en rs =>
      refine ⟨_, _, _, rfl, e, fld_none en hm, ha H0 A σ H1 _ (E.mono s1) fun vs H2 s2 r2 => ?_⟩
      refine ⟨_, _, hp, .cons (Rp.mono (Imm.of_same s2) (.obj e en rs)) (by rw [List.append_nil]; exact r2), fun v H3 s3 r3 => q v H3 (s1.trans (s2.trans s3)) r3⟩
theorem ev_methX {ta : TE} {C : Addr} {ns : List Str} {ts : List T} {m : Str} {t : TA} {ds : List D} {x : T} {R : List D → Rs → Prop} {Ex : XK} (h : Ev K ta Γ (.obj C ns ts)) (hm : ns.all (fun n => !decide (n = m)) = true) (ha : EvA K t Γ ds) (hp : R (.t (.obj C ns ts) :: ds) (.ok (.t x))) :
    Ev K (tMeth C m (spX K R) [] Ex ta t) Γ x := fun H0 A σ H Q E q =>
  h H0 A σ H _ E fun v H1 s1 r1 => by
    cases r1 with
    | obj e en rs =>
      refine ⟨_, _, _, rfl, e, fld_none en hm, ha H0 A σ H1 _ (E.mono s1) fun vs H2 s2 r2 => ?_⟩
      refine ⟨_, _, hp, .cons (Rp.mono (Imm.of_same s2) (.obj e en rs)) (by rw [List.append_nil]; exact r2), fun v H3 s3 r3 => q v H3 (s1.trans (s2.trans s3)) r3⟩
/-- .. that raises: W is what is wished at these slots -/
theorem eve_methX {ta : TE} {C Ce : Addr} {ns : List Str} {ts : List T} {m : Str} {t : TA} {ds : List D} {R : List D → Rs → Prop} {Ex : XK} (hW : ∀ σ H, Ex (.ref Ce) none H → W (.ref Ce) none σ H) (hW' : ∀ σ H, W (.ref Ce) none σ H → Ex (.ref Ce) none H)
    (h : Ev K ta Γ (.obj C ns ts)) (hm : ns.all (fun n => !decide (n = m)) = true) (ha : EvA K t Γ ds) (hp : R (.t (.obj C ns ts) :: ds) (.er Ce)) : EvE K W (tMeth C m (spX K R) [] Ex ta t) Γ Ce := fun H0 A σ H Q E q =>
  h H0 A σ H _ E fun v H1 s1 r1 => by
    cases r1 with
    | obj e en rs =>
      refine ⟨_, _, _, rfl, e, fld_none en hm, ha H0 A σ H1 _ (E.mono s1) fun vs H2 s2 r2 => ?_⟩
      refine ⟨_, _, hp, .cons (Rp.mono (Imm.of_same s2) (.obj e en rs)) (by rw [List.append_nil]; exact r2), fun H3 s3 => hW' σ H3 (q H3 (s1.trans (s2.trans s3)))⟩
end
/-! ### making an instance -/
/-- a heap without x -/
def hid (H : Hp) (x : Addr) : Hp := fun b => if b = x then none else H b
theorem hid_same {H : Hp} {x : Addr} : Same (hid H x) H := fun b o e => by
  unfold hid at e
  split at e
  · cases e
  · exact e
theorem hid_ne {H : Hp} {x b : Addr} (h : b ≠ x) : hid H x b = H b := if_neg h
theorem hid_at {H : Hp} {x : Addr} : hid H x x = none := if_pos rfl
theorem hid_mono {H H' : Hp} {x : Addr} (k : ∀ b o, H b = some o → b ≠ x → H' b = some o) : Same (hid H x) (hid H' x) := fun b o e => by
  by_cases h : b = x
  · subst h; rw [hid_at] at e; cases e
  · rw [hid_ne h] at *; exact k b o e h
theorem hid_upd {H : Hp} {x : Addr} {o : HO} : hid (upd H x o) x = hid H x := by
  funext b
  by_cases h : b = x
  · subst h; rw [hid_at, hid_at]
  · rw [hid_ne h, hid_ne h, upd_ne h]
/-- __init__'s promise: a fresh instance at x is given its attributes, or it raises -/
def spI (K : PySem.W.Frag) (C : Addr) (R : List D → Rs → Prop) : Sp := fun vs H Q E => ∃ (x dx : Addr) (ws : List V) (ds : List D) (r : Rs), vs = .ref x :: ws ∧ H x = some (.ins C dx []) ∧ R ds r ∧ Args K (hid H x) ws ds ∧ match r with
  | .ok (.t (.obj C' ns ts)) => C' = C ∧ ∀ H' fs, (∀ b o, H b = some o → b ≠ x → H' b = some o) → H' x = some (.ins C dx fs) → fs.map (·.1) = ns → Rps K (hid H' x) (fs.map (·.2)) ts → Q .non H'
  | .ok _ => False
  | .er Ce => ∀ H', (∀ b o, H b = some o → b ≠ x → H' b = some o) → E (.ref Ce) none H'
section
variable {K : PySem.W.Frag} {Γ : List D} {W : WX} {P : Po}
theorem made_same {H1 H' : Hp} {x dx C : Addr} (nx : H1 x = none) (ndx : H1 dx = none) (k : ∀ b o, (upd (upd H1 dx (.own x)) x (.ins C dx [])) b = some o → b ≠ x → H' b = some o) : Same H1 H' := Same.made nx ndx k
theorem ev_make {t : TA} {ds : List D} {C : Addr} {ns : List Str} {ts : List T} {R : List D → Rs → Prop} {Ex : XK} (ha : EvA K t Γ ds) (hp : R ds (.ok (.t (.obj C ns ts)))) : Ev K (tMake C (spI K C R) [] Ex t) Γ (.obj C ns ts) := fun H0 A σ H Q E q =>
  ha H0 A σ H _ E fun vs H1 s1 r1 => fun x dx nx ndx ne => by
    have s2 : Same H1 (hid (upd (upd H1 dx (.own x)) x (.ins C dx [])) x) := fun b o e => by
      rw [hid_ne (ne_of_none e nx), upd_ne (ne_of_none e nx), upd_ne (ne_of_none e ndx)]
      exact e
    refine ⟨x, dx, vs, ds, _, by rw [List.append_nil], upd_same, hp, r1.mono s2, rfl, fun H' fs k e en rs => ⟨rfl, ?_⟩⟩
    have s3 : Same H1 H' := Same.made nx ndx k
    exact q _ H' (s1.trans s3) (.obj e en (rs.mono (Imm.of_same hid_same)))
theorem eve_make {t : TA} {ds : List D} {C Ce : Addr} {R : List D → Rs → Prop} {Ex : XK} (hW' : ∀ σ H, W (.ref Ce) none σ H → Ex (.ref Ce) none H) (ha : EvA K t Γ ds) (hp : R ds (.er Ce)) : EvE K W (tMake C (spI K C R) [] Ex t) Γ Ce := fun H0 A σ H Q E q =>
  ha H0 A σ H _ E fun vs H1 s1 r1 => fun x dx nx ndx ne => by
    have s2 : Same H1 (hid (upd (upd H1 dx (.own x)) x (.ins C dx [])) x) := fun b o e => by
      rw [hid_ne (ne_of_none e nx), upd_ne (ne_of_none e nx), upd_ne (ne_of_none e ndx)]
      exact e
    exact ⟨x, dx, vs, ds, _, by rw [List.append_nil], upd_same, hp, r1.mono s2, fun H' k => hW' σ H' (q H' (s1.trans (Same.made nx ndx k)))⟩
/-- the frame of an __init__: self, then data -/
theorem env_self {H : Hp} {x : Addr} {σ : L2.St} {Γ : List D} (hl : σ.length = Γ.length) (h0 : σ[0]? = some (some (.ref x))) (g0 : Γ[0]? = some (.rf x)) (h : ∀ i d, i ≠ 0 → Γ[i]? = some d → d = .no ∨ ∃ v t, σ[i]? = some (some v) ∧ d = .t t ∧ Rp K (hid H x) v t) : EnvD K (hid H x) H σ Γ (fun _ => 0) := by
  have no : ∀ (i : Nat) (xs : List T), Γ[i]? ≠ some (D.own xs) := fun i xs e => by
    by_cases z : i = 0
    · subst z; rw [g0] at e; cases e
    · rcases h i _ z e with q | ⟨v, t, _, q, _⟩ <;> cases q
  refine ⟨hid_same, hl, fun i d e => ?_, fun i j xs ys hi => absurd hi (no i xs)⟩
  by_cases z : i = 0
  · subst z
    rw [g0] at e
    cases e
    rw [h0]
    exact rfl
  · rcases h i d z e with rfl | ⟨v, t, q, rfl, r⟩
    · unfold Sl; split <;> trivial
    · rw [q]
      exact Rp.mono (Imm.of_same hid_same) r
end
/-! ### loops over three; comprehensions with two fors; all, any; gcd -/
section
variable {K : PySem.W.Frag} {Γ : List D} {W : WX} {P : Po}
theorem sv_forT3 {g : TG} {ta : TE} {tb : TS} {x1 x2 x3 : T} {G1 G2 G3 : List D} {Γ1 Γ2 Γ3 : List D} (h : Ev K ta Γ (.tup [x1, x2, x3])) (g1 : Gd K g Γ x1 Γ1) (h1 : Sv K W tb Γ1 { P with nx := fun G => G = G1, ct := fun G => G = G1, bk := P.nx })
    (g2 : Gd K g G1 x2 Γ2) (h2 : Sv K W tb Γ2 { P with nx := fun G => G = G2, ct := fun G => G = G2, bk := P.nx }) (g3 : Gd K g G2 x3 Γ3) (h3 : Sv K W tb Γ3 { P with nx := fun G => G = G3, ct := fun G => G = G3, bk := P.nx }) (n : P.nx G3) : Sv K W (tFor (iTup K ta) g tb) Γ P :=
  sv_forT (xs := [x1, x2, x3]) (fun i G => G = match i with | 0 => Γ | 1 => G1 | 2 => G2 | _ => G3) h rfl (fun i x G hx hG => match i, hx, hG with
    | 0, hx, hG => by cases hx; exact ⟨_, by rw [hG]; exact g1, h1⟩
    | 1, hx, hG => by cases hx; exact ⟨_, by rw [hG]; exact g2, h2⟩
    | 2, hx, hG => by cases hx; exact ⟨_, by rw [hG]; exact g3, h3⟩
    | j + 3, hx, _ => by simp at hx) (fun G hG => by rw [hG]; exact n)
theorem ev_all {ta : TE} (bs : List Bool) (h : EvL K ta Γ (bs.map T.bl)) : Ev K (tCB (rAll K) (tCons ta tNil)) Γ (.bl (bs.all id)) := fun H0 A σ H Q E q =>
  h H0 A σ H _ E fun b vs H1 s sq r => by
    have e := r.bls_of
    subst e
    exact ⟨b, bs, rfl, sq, q _ H1 s (.bl _)⟩
theorem ev_any {ta : TE} (bs : List Bool) (h : EvL K ta Γ (bs.map T.bl)) : Ev K (tCB (rAny K) (tCons ta tNil)) Γ (.bl (bs.any id)) := fun H0 A σ H Q E q =>
  h H0 A σ H _ E fun b vs H1 s sq r => by
    have e := r.bls_of
    subst e
    exact ⟨b, bs, rfl, sq, q _ H1 s (.bl _)⟩
theorem ev_gcd {ta tb : TE} {a b : Int} (ha : Ev K ta Γ (.int a)) (hb : Ev K tb Γ (.int b)) : Ev K (tCB rGcd (tCons ta (tCons tb tNil))) Γ (.int ((Nat.gcd a.natAbs b.natAbs : Nat) : Int)) := fun H0 A σ H Q E q =>
  ha H0 A σ H _ E fun v H1 s1 r1 => hb H0 A σ H1 _ (E.mono s1) fun w H2 s2 r2 => by
    cases r1
    cases r2
    exact ⟨a, b, rfl, q _ H2 (s1.trans s2) (.int _)⟩
theorem tYes_if {σ : L2.St} {H : Hp} {A B : Hp → Prop} (h : A H) : tYes σ H (fun b H3 => if b = true then A H3 else B H3) := by
  show (if true = true then A H else B H)
  rw [if_pos rfl]
  exact h
/-- [e for row in table for item in row], a table of rows: ys, row by row -/
theorem evf_lc2T {tl : TE} {i j : Nat} {te : TE} {xss : List (List T)} (f : T → T) (hl : Ev K tl Γ (.tup (xss.map T.tup))) (z : (xss.map List.length).sum < 1000) (hij : i ≠ j) (hi : i < Γ.length)
    (h : ∀ xs x, xs ∈ xss → x ∈ xs → Ev K te ((((wipeD Γ [i, j]).set i (.t (.tup xs))).set j .no).set j (.t x)) (f x)) :
    EvF K (tLc2 (iTup K tl) (gName i) tYes (iTup K (tVar i)) (gName j) tYes te [i, j] [j]) Γ (xss.flatten.map f) := fun H0 A σ H Q E q =>
  hl H0 A σ H _ E fun v H1 s1 rv => by
    cases rv with
    | tup sq r =>
      rename_i a vs
      have E1 := E.mono s1
      have hn : vs.length = xss.length := by rw [r.length, List.length_map]
      have hlen : ∀ k, ((xss.take k).flatten).length ≤ (xss.map List.length).sum := fun k => by
        have e : xss.flatten = (xss.take k).flatten ++ (xss.drop k).flatten := by rw [← List.flatten_append, List.take_append_drop]
        have e2 : xss.flatten.length = (xss.map List.length).sum := by rw [List.length_flatten]
        rw [← e2, e, List.length_append]
        omega
      refine ⟨a, rfl, ⟨vs, sq⟩, fun D hD => ⟨fun k m H => m = xss.length - k ∧ k ≤ xss.length ∧ Same H1 H ∧ ∃ acc, H D = some (.lst acc) ∧ Rps K H acc (((xss.take k).flatten).map f), ⟨_, rfl, Nat.zero_le _, same_upd hD, [], upd_same, .nil⟩, ?_⟩⟩
      rintro k m H2 ⟨rfl, hk, s2, acc, ha, ra⟩
      have sq2 : SqT K H2 a vs := (Imm.of_same s2).sqT sq
      by_cases hlt : k < xss.length
      · have hv : k < vs.length := by omega
        refine .inr ⟨⟨vs, vs[k], sq2, List.getElem?_eq_getElem hv⟩, fun H => k + 1 ≤ xss.length ∧ Same H1 H ∧ ∃ acc, H D = some (.lst acc) ∧ Rps K H acc (((xss.take (k + 1)).flatten).map f), fun H' ⟨p1, p2, p3⟩ => ⟨_, by omega, rfl, p1, p2, p3⟩, ?_⟩
        rintro x H' ⟨e', hx⟩
        have e'' := e'.symm
        subst e''
        have hx := hx vs sq2
        obtain ⟨t, ht, rt⟩ := r.at' hx
        rw [List.getElem?_map] at ht
        have hxs : xss[k]? = some xss[k] := List.getElem?_eq_getElem hlt
        rw [hxs] at ht
        cases ht
        have hmem : xss[k] ∈ xss := List.getElem_mem hlt
        have rt2 := Rp.mono (Imm.of_same s2) rt
        cases rt2 with
        | @tup b ws _ sx rx =>
          have E2 := (((E1.mono s2).wipe [i, j]).setT (k := i) (.tup sx rx))
          have e0 : wipe ((wipe σ [i, j]).set i (some (.ref b))) [i, j] = wipe σ [i, j] := by
            rw [wipe_set (by simp)]
            show ((((σ.set j none).set i none).set j none).set i none) = ((σ.set j none).set i none)
            rw [List.set_comm _ _ hij, List.set_set, List.set_set]
          refine ⟨e0, ?_⟩
          refine tYes_if ?_
          refine ⟨.ref b, ?_, b, rfl, ⟨ws, sx⟩, ?_⟩
          · rw [List.getElem?_set_self (by rw [wipe_length, E.len]; exact hi)]
          · have ez : ((xss.take (k + 1)).flatten) = (xss.take k).flatten ++ xss[k] := by rw [take_snoc hxs, List.flatten_append]; simp
            have hl1 := hlen (k + 1)
            rw [ez, List.length_append] at hl1
            refine ⟨fun y m H3 => m = ws.length - y ∧ y ≤ ws.length ∧ Same H1 H3 ∧ Same (hid H2 D) (hid H3 D) ∧ ∃ acc, H3 D = some (.lst acc) ∧ Rps K H3 acc (((xss.take k).flatten ++ (xss[k]).take y).map f), ⟨_, rfl, Nat.zero_le _, s2, Same.refl _, acc, ha, by rw [List.take_zero, List.append_nil]; exact ra⟩, ?_⟩
            rintro y m H3 ⟨rfl, hy, s3, g3, acc3, ha3, ra3⟩
            have hws : ws.length = (xss[k]).length := rx.length
            have nbD : ∀ c : Addr, H2 c ≠ none → c ≠ D ∨ c = D := fun c _ => by by_cases h : c = D <;> simp [h]
            have imm3 : Imm H2 H3 := by
              have g : ∀ c o, H2 c = some o → c ≠ D → H3 c = some o := fun c o e n => by
                have := g3 c o (by rw [hid_ne n]; exact e)
                rw [hid_ne n] at this
                exact this
              refine ⟨fun c us h => ?_, fun c C dx fs h => ?_⟩
              · rcases h with h | ⟨o, h⟩
                · exact .inl (g _ _ h (ne_of h ha (fun z => nomatch z)))
                · exact .inr ⟨o, g _ _ h (ne_of h ha (fun z => nomatch z))⟩
              · exact g _ _ h (ne_of h ha (fun z => nomatch z))
            have sx3 : SqT K H3 b ws := imm3.sqT sx
            by_cases hy2 : y < ws.length
            · refine .inr ⟨⟨ws, ws[y], sx3, List.getElem?_eq_getElem hy2⟩, fun H => y + 1 ≤ ws.length ∧ Same H1 H ∧ Same (hid H2 D) (hid H D) ∧ ∃ acc, H D = some (.lst acc) ∧ Rps K H acc (((xss.take k).flatten ++ (xss[k]).take (y + 1)).map f), fun H' ⟨p1, p2, p3, p4⟩ => ⟨_, by omega, rfl, p1, p2, p3, p4⟩, ?_⟩
              rintro w H' ⟨e', hw⟩
              have e'' := e'.symm
              subst e''
              have hw := hw ws sx3
              obtain ⟨t, ht, rt3⟩ := (rx.mono imm3).at' hw
              have E3 := ((((E1.mono s3).wipe [i, j]).setT (k := i) (.tup sx3 (rx.mono imm3))).wipe [j]).setT (k := j) rt3
              refine ⟨by rw [wipe_set (by simp)]; show ((((wipe σ [i, j]).set i (some (.ref b))).set j none).set j none) = _; rw [List.set_set]; rfl, ?_⟩
              refine tYes_if ?_
              refine h _ t hmem (List.mem_of_getElem? ht) H0 A _ H3 _ E3 fun u H4 s4 r4 => ?_
              refine ⟨acc3, s4 _ _ ha3, ?_, hy2, ?_, ?_, _, upd_same, ?_⟩
              · rw [ra3.length, List.length_map, List.length_append, List.length_take, sizeLine_eq]; omega
              · exact fun c o e => by
                  rw [upd_ne (ne_of_none e hD)]
                  exact s4 _ _ (s3 _ _ e)
              · rw [hid_upd]
                exact g3.trans (hid_mono fun c o e _ => s4 c o e)
              · have m4 : Imm H4 (upd H4 D (.lst (acc3 ++ [u]))) := Imm.of_lst (s4 _ _ ha3)
                rw [take_snoc ht, ← List.append_assoc, List.map_append]
                exact ((ra3.mono (Imm.of_same s4)).mono m4).append (.cons (Rp.mono m4 r4) .nil)
            · have e : y = ws.length := by omega
              refine .inl ⟨⟨ws, sx3, by omega⟩, hlt, s3, acc3, ha3, ?_⟩
              rw [e, hws, List.take_length] at ra3
              rw [ez]
              exact ra3
      · have e : k = xss.length := by omega
        refine .inl ⟨⟨vs, sq2, by omega⟩, q D acc H2 (s1.free hD) (s1.trans s2) ha ?_⟩
        rw [e, List.take_length] at ra
        exact ra
end
end Cz

/-! CzI: an __init__: self at x, its attributes so far; the rule for the def. -/
namespace Cz
open PySem PySem.Spec PyProof.Rows L2
/-! ### data without instances does not look at an instance -/
mutual
def plainT : T → Bool
  | .tup ts => plainTs ts
  | .obj _ _ _ => false
  | _ => true
def plainTs : List T → Bool
  | [] => true
  | t :: ts => plainT t && plainTs ts
end
mutual
theorem Rp.hide {K : PySem.W.Frag} {H : Hp} {x C dx : Addr} {fs : List (Str × V)} (hx : H x = some (.ins C dx fs)) : ∀ {v : V} {t : T}, Rp K H v t → plainT t = true → Rp K (hid H x) v t
  | _, _, .non, _ => .non
  | _, _, .bl b, _ => .bl b
  | _, _, .int i, _ => .int i
  | _, _, .str x, _ => .str x
  | _, _, .tup (a := a) h r, p => by
    refine .tup ?_ (Rps.hide hx r (by simpa [plainT] using p))
    rcases h with h | h
    · have ne : a ≠ x := fun z => by
        subst z
        rcases h with h | ⟨o, h⟩ <;> rw [hx] at h <;> cases h
      rcases h with h | ⟨o, h⟩
      · exact .inl (.inl (by rw [hid_ne ne]; exact h))
      · exact .inl (.inr ⟨o, by rw [hid_ne ne]; exact h⟩)
    · exact .inr h
  | _, _, .obj _ _ _, p => by simp [plainT] at p
theorem Rps.hide {K : PySem.W.Frag} {H : Hp} {x C dx : Addr} {fs : List (Str × V)} (hx : H x = some (.ins C dx fs)) : ∀ {vs : List V} {ts : List T}, Rps K H vs ts → plainTs ts = true → Rps K (hid H x) vs ts
  | _, _, .nil, _ => .nil
  | _, _, .cons h r, p => by
    simp only [plainTs, Bool.and_eq_true] at p
    exact .cons (Rp.hide hx h p.1) (Rps.hide hx r p.2)
end
/-! ### the state of an __init__ -/
structure Ini (K : PySem.W.Frag) (H0 : Hp) (x dx C : Addr) (Γ : List D) (ns : List Str) (ts : List T) (σ : L2.St) (H : Hp) : Prop where
  keep : ∀ b o, H0 b = some o → b ≠ x → H b = some o
  flds : ∃ fs, H x = some (.ins C dx fs) ∧ fs.map (·.1) = ns ∧ Rps K (hid H x) (fs.map (·.2)) ts
  len : σ.length = Γ.length
  self : σ[0]? = some (some (.ref x))
  self' : Γ[0]? = some (.rf x)
  slots : ∀ i d, i ≠ 0 → Γ[i]? = some d → d = .no ∨ ∃ v t, σ[i]? = some (some v) ∧ d = .t t ∧ Rp K (hid H x) v t
section
variable {K : PySem.W.Frag} {H0 H H' : Hp} {x dx C : Addr} {Γ : List D} {ns : List Str} {ts : List T} {σ : L2.St}
theorem Ini.env (h : Ini K H0 x dx C Γ ns ts σ H) : EnvD K (hid H x) H σ Γ (fun _ => 0) := env_self h.len h.self h.self' h.slots
theorem Ini.same (h : Ini K H0 x dx C Γ ns ts σ H) (s : Same H H') : Ini K H0 x dx C Γ ns ts σ H' := by
  obtain ⟨fs, e, en, r⟩ := h.flds
  have m : Imm (hid H x) (hid H' x) := Imm.of_same (hid_mono fun b o e _ => s b o e)
  refine ⟨fun b o e n => s _ _ (h.keep b o e n), ⟨fs, s _ _ e, en, r.mono m⟩, h.len, h.self, h.self', fun i d z e => ?_⟩
  rcases h.slots i d z e with q | ⟨v, t, q, w, r⟩
  · exact .inl q
  · exact .inr ⟨v, t, q, w, Rp.mono m r⟩
theorem putF_new {f : Str} {y : V} : ∀ {fs : List (Str × V)}, (∀ p ∈ fs, p.1 ≠ f) → putF f y fs = fs ++ [(f, y)]
  | [], _ => rfl
  | (g, z) :: fs, h => by
    have n : g ≠ f := h (g, z) (List.mem_cons_self)
    unfold putF
    rw [if_neg n]
    rw [putF_new fun p hp => h p (List.mem_cons_of_mem _ hp)]
    rfl
theorem Ini.put (h : Ini K H0 x dx C Γ ns ts σ H) {v : V} {y : T} {f : Str} {fs : List (Str × V)} (e : H x = some (.ins C dx fs)) (r : Rp K (hid H x) v y) (hf : ns.all (fun n => !decide (n = f)) = true) : Ini K H0 x dx C Γ (ns ++ [f]) (ts ++ [y]) σ (upd H x (.ins C dx (putF f v fs))) := by
  obtain ⟨fs', e', en, rs⟩ := h.flds
  rw [e] at e'
  cases e'
  have hn : ∀ p ∈ fs, p.1 ≠ f := fun p hp z => by
    have := List.all_eq_true.mp hf p.1 (by rw [← en]; exact List.mem_map_of_mem hp)
    simp [z] at this
  refine ⟨fun b o e n => by rw [upd_ne n]; exact h.keep b o e n, ⟨_, upd_same, ?_, ?_⟩, h.len, h.self, h.self', fun i d z e => ?_⟩
  · rw [putF_new hn, List.map_append, en]
    rfl
  · rw [putF_new hn, List.map_append, hid_upd]
    exact rs.append (.cons r .nil)
  · rw [hid_upd]
    exact h.slots i d z e
theorem Ini.nlen (h : Ini K H0 x dx C Γ ns ts σ H) {fs : List (Str × V)} (e : H x = some (.ins C dx fs)) : fs.length = ns.length := by
  obtain ⟨fs', e', en, rs⟩ := h.flds
  rw [e] at e'
  cases e'
  rw [← en, List.length_map]
/-- self.f = e, e without instances -/
theorem i_fld {E : Ends} {te : TE} {y : T} {f : Str} (h : Ini K H0 x dx C Γ ns ts σ H) (he : Ev K te Γ y) (hp : plainT y = true) (c : Cls K C) (n : NoAttr K C f) (hf : ns.all (fun n => !decide (n = f)) = true) (hl : ns.length < 1000)
    (k : ∀ H', Ini K H0 x dx C Γ (ns ++ [f]) (ts ++ [y]) σ H' → E.nx σ H') : sFld K (tVar 0) te f E σ H :=
  he _ _ σ H _ h.env fun v H1 s r => by
    have h1 := h.same s
    obtain ⟨fs, e, en, rs⟩ := h1.flds
    exact ⟨_, h1.self, x, C, dx, fs, rfl, e, c, n, by rw [h1.nlen e]; exact hl, k _ (h1.put e (Rp.hide e r hp) hf)⟩
/-- self.f = a parameter -/
theorem i_fldV {E : Ends} {i : Nat} {y : T} {f : Str} (h : Ini K H0 x dx C Γ ns ts σ H) (hi : Γ[i]? = some (.t y)) (c : Cls K C) (n : NoAttr K C f) (hf : ns.all (fun n => !decide (n = f)) = true) (hl : ns.length < 1000)
    (k : ∀ H', Ini K H0 x dx C Γ (ns ++ [f]) (ts ++ [y]) σ H' → E.nx σ H') : sFld K (tVar 0) (tVar i) f E σ H := by
  have h0 : i ≠ 0 := fun z => by
    subst z
    rw [h.self'] at hi
    cases hi
  rcases h.slots i _ h0 hi with q | ⟨v, t, q, w, r⟩
  · cases q
  · cases w
    obtain ⟨fs, e, en, rs⟩ := h.flds
    exact ⟨v, q, _, h.self, x, C, dx, fs, rfl, e, c, n, by rw [h.nlen e]; exact hl, k _ (h.put e r hf)⟩
theorem i_do {E : Ends} {te : TE} {y : T} (h : Ini K H0 x dx C Γ ns ts σ H) (he : Ev K te Γ y) (k : ∀ H', Ini K H0 x dx C Γ ns ts σ H' → E.nx σ H') : tDrop te E σ H :=
  he _ _ σ H _ h.env fun v H1 s r => k _ (h.same s)
theorem i_doE {E : Ends} {te : TE} {Ce : Addr} {W : WX} (h : Ini K H0 x dx C Γ ns ts σ H) (he : EvE K W te Γ Ce) (k : ∀ H', Ini K H0 x dx C Γ ns ts σ H' → W (.ref Ce) none σ H') : tDrop te E σ H :=
  he _ _ σ H _ h.env fun H1 s => k _ (h.same s)
end
section
variable {P : Program} {w : World} {K : PySem.W.Frag} {mg : Str → Option Value} {base : Heap}
/-- THE RULE for an __init__ -/
theorem fn_i {qual : Str} {st : Stmt} {f : Addr} {fd : FuncData} {N ps : List Str} {k : Nat} {C : Addr} {R : List D → Rs → Prop} (F : Fun K "__init__" qual st f fd) (S : FnScope N ps (defScope st)) (len : ∀ ds r, R ds r → ds.length + 1 = ps.length) (hds : ∀ ds r, R ds r → ∀ xs, D.l xs ∉ ds)
    (hbody : ∀ (cdv : Value) (A : Around) (outer : List Env) (s : Shared) (H : Hp) (E : XK), Room k (A.deeper (envOfC qual (defScope st) s.heap.objs.size f cdv)) →
      ∃ t, PSs (cxOf (L2.CX P w) P w K mg base N qual (defScope st) f cdv A outer s H E) (defBody st) t ∧ ∀ ds r x dx σ H (D : Ends), R ds r → Ini K H x dx C (startD N (.rf x :: ds)) [] [] σ H →
        (∀ H' ns ts, r = .ok (.t (.obj C ns ts)) → Ini K H x dx C (startD N (.rf x :: ds)) ns ts σ H' → D.nx σ H') → (∀ H' Ce ns ts, r = .er Ce → Ini K H x dx C (startD N (.rf x :: ds)) ns ts σ H' → E (.ref Ce) none H') → t D σ H) : FnOk P w K mg base (L2.CX P w) (k + 1) f fd ps (spI K C R) := by
  refine F.okX S (fun vs H Q E h => ?_) (fun cdv A outer s H vs Q E hr h => ?_)
  · obtain ⟨x, dx, ws, ds, r, rfl, _, hR, ha, _⟩ := h
    rw [List.length_cons, ha.length]
    exact len ds r hR
  obtain ⟨x, dx, ws, ds, r, rfl, hx, hR, ha, q⟩ := h
  obtain ⟨t, ht, hs⟩ := hbody cdv A outer s H E hr
  have e0 := env_start (N := N) ha
  refine ⟨t, ht, hs ds r x dx _ H _ hR ⟨fun b o e _ => e, ⟨[], hx, rfl, .nil⟩, ?_, ?_, rfl, fun i d hi e => ?_⟩ (fun H' ns ts e I => ?_) (fun H' Ce ns ts e I => ?_)⟩
  · have hl := ha.length
    unfold L2.start startD
    simp only [List.length_append, List.length_map, List.length_replicate, List.length_cons]
    omega
  · rfl
  · by_cases z : i < ds.length + 1
    · cases i with
      | zero => exact absurd rfl hi
      | succ j =>
        have e' : ds[j]? = some d := by
          unfold startD at e
          rw [List.cons_append, List.getElem?_cons_succ, List.getElem?_append_left (by omega)] at e
          exact e
        obtain ⟨v, hv, hd⟩ := ha.at' e'
        have hv' : (L2.start N (.ref x :: ws))[j + 1]? = some (some v) := by
          unfold L2.start
          rw [List.map_cons, List.cons_append, List.getElem?_cons_succ, List.getElem?_append_left (by rw [List.length_map, ha.length]; omega), List.getElem?_map, hv]
          rfl
        cases d with
        | no => exact .inl rfl
        | t y => exact .inr ⟨v, y, hv', rfl, hd⟩
        | l xs => exact absurd (List.mem_of_getElem? e') (hds ds r hR xs)
        | own xs => exact absurd e' ha.noown
        | rf a => exact hd.elim
        | ll a => exact hd.elim
    · unfold startD at e
      rw [List.getElem?_append_right (by rw [List.length_cons]; omega), List.getElem?_replicate] at e
      split at e
      · cases e
        exact .inl rfl
      · cases e
  · subst e
    obtain ⟨_, q⟩ := q
    obtain ⟨fs, e, en, rs⟩ := I.flds
    exact q H' fs I.keep e en rs
  · subst e
    exact q H' I.keep
end
/-! ### an own list is only read from now on; the greatest of three -/
section
variable {K : PySem.W.Frag} {Γ : List D} {W : WX} {P : Po}
theorem EnvD.share {H0 H : Hp} {σ : L2.St} {A : Nat → Addr} {i : Nat} {xs : List T} (E : EnvD K H0 H σ Γ A) (h : Γ[i]? = some (.own xs)) : EnvD K H0 H σ (Γ.set i (.l xs)) A := by
  have no : ∀ zs, D.l xs ≠ .own zs := fun _ z => nomatch z
  refine ⟨E.same, by rw [List.length_set]; exact E.len, fun j d e => ?_, fun j k ys zs hj hk => E.ne j k ys zs (own_of_set no hj) (own_of_set no hk)⟩
  by_cases z : i = j
  · subst z
    have hi : i < Γ.length := (List.getElem?_eq_some_iff.mp h).1
    rw [List.getElem?_set_self hi] at e
    cases e
    obtain ⟨e1, _, vs, hs, r⟩ := E.ow h
    rw [e1]
    refine ⟨A i, vs, rfl, .of hs, fun ⟨k, ys, hk, ek⟩ => ?_, r⟩
    have hne : k ≠ i := fun z => by
      subst z
      rw [List.getElem?_set_self hi] at hk
      cases hk
    exact absurd ek (E.ne k i ys xs (own_of_set no hk) h hne)
  · rw [List.getElem?_set_ne z] at e
    exact (E.sl j d e).mono (Imm.of_same (Same.refl H)) (fun _ _ q _ => q) (fun _ _ _ q => .inl (q.of_set no)) (fun _ _ _ q => q)
theorem Go.share {A : Nat → Addr} {H : Hp} {i : Nat} {xs : List T} : Go Γ A H (Γ.set i (.l xs)) A H :=
  Go.put (d := .l xs) fun _ z => nomatch z
theorem sv_share {t : TS} {i : Nat} {xs : List T} (h : Γ[i]? = some (.own xs)) (k : Sv K W t (Γ.set i (.l xs)) P) : Sv K W t Γ P := fun H0 A σ H E hE M =>
  k H0 A σ H E (hE.share h) ⟨fun G B σ' H' p e g => M.nx _ _ _ _ p e (Go.share.trans g), M.rt, fun G B σ' H' p e g => M.bk _ _ _ _ p e (Go.share.trans g), fun G B σ' H' p e g => M.ct _ _ _ _ p e (Go.share.trans g), fun C G B σ' H' p e g => M.er _ _ _ _ _ p e (Go.share.trans g)⟩
theorem ev_maxL {ta : TE} {ns : List Int} {m : Int} (h : EvL K ta Γ (intsT ns)) (hm : m ∈ ns) (hx : ∀ y, y ∈ ns → y ≤ m) : Ev K (tCB (rMax K) (tCons ta tNil)) Γ (.int m) := fun H0 A σ H Q E q =>
  h H0 A σ H _ E fun b vs H1 s sq r => by
    have e := Rps.ints_of r
    subst e
    refine ⟨b, ns, rfl, sq, List.length_pos_of_mem hm, fun m' h1 h2 => ?_⟩
    have e : m' = m := Int.le_antisymm (hx _ h1) (h2 _ hm)
    rw [e]
    exact q _ H1 s (.int _)
def mx3 (a b c : Int) : Int := max a (max b c)
theorem ev_max3 {ta : TE} {a b c : Int} (h : EvL K ta Γ [.int a, .int b, .int c]) : Ev K (tCB (rMax K) (tCons ta tNil)) Γ (.int (mx3 a b c)) :=
  ev_maxL (ns := [a, b, c]) h (by simp only [mx3, List.mem_cons, List.not_mem_nil, or_false]; omega) (fun y hy => by
    simp only [List.mem_cons, List.not_mem_nil, or_false] at hy
    unfold mx3
    omega)
end
section
variable {K : PySem.W.Frag} {Γ : List D} {W : WX} {P : Po}
theorem ev_isB {ta tb : TE} {a b : Bool} (ha : Ev K ta Γ (.bl a)) (hb : Ev K tb Γ (.bl b)) : Ev K (tOp (fun x y H Q => ∃ a b, x = .bl a ∧ y = .bl b ∧ Q (.bl (decide (a = b))) H) ta tb) Γ (.bl (decide (a = b))) :=
  ev_op ha hb fun v w H Q r1 r2 q => by
    cases r1
    cases r2
    exact ⟨_, _, rfl, rfl, q _ H (Same.refl H) (.bl _)⟩
theorem ev_isnotB {ta tb : TE} {a b : Bool} (ha : Ev K ta Γ (.bl a)) (hb : Ev K tb Γ (.bl b)) : Ev K (tOp (fun x y H Q => ∃ a b, x = .bl a ∧ y = .bl b ∧ Q (.bl (!decide (a = b))) H) ta tb) Γ (.bl (!decide (a = b))) :=
  ev_op ha hb fun v w H Q r1 r2 q => by
    cases r1
    cases r2
    exact ⟨_, _, rfl, rfl, q _ H (Same.refl H) (.bl _)⟩
theorem eqv_bl (a b : Bool) : PyData.eqv (T.py (.bl a)) (T.py (.bl b)) = decide (a = b) := by cases a <;> cases b <;> decide +kernel
theorem pl_bl (a : Bool) : Pl (.bl a) := ⟨rfl, by rfl⟩
theorem ev_eqB {ta tb : TE} {a b : Bool} (h : Ev K ta Γ (.bl a)) (k : Ev K tb Γ (.bl b)) : Ev K (tOp (rEqD K) ta tb) Γ (.bl (decide (a = b))) := ev_eq (ev_eqD (pl_bl a) (pl_bl b) h k) (by rw [eqv_bl])
theorem ev_neB {ta tb : TE} {a b : Bool} (h : Ev K ta Γ (.bl a)) (k : Ev K tb Γ (.bl b)) : Ev K (tOp (rNeD K) ta tb) Γ (.bl (!decide (a = b))) := ev_eq (ev_neD (pl_bl a) (pl_bl b) h k) (by rw [eqv_bl])
/-- an own list + a fresh one -/
theorem evf_catO {tb : TE} {i : Nat} {xs ys : List T} (h : Γ[i]? = some (.own xs)) (hb : EvF K tb Γ ys) (z : xs.length + ys.length ≤ 1000) : EvF K (tOp rCat (tVar i) tb) Γ (xs ++ ys) := fun H0 A σ H Q E q => by
  obtain ⟨e, n0, vs, hs, r⟩ := E.ow h
  exact ⟨.ref (A i), e, hb H0 A σ H _ E fun p ws H1 np s1 e1 r1 => ⟨A i, p, vs, ws, rfl, rfl, s1 _ _ hs, e1, by rw [r.length, r1.length, sizeLine_eq]; omega, fun b nb =>
    q b _ _ (s1.free nb) (s1.trans (same_upd nb)) upd_same (((r.mono (Imm.of_same s1)).append r1).mono (Imm.of_same (same_upd nb)))⟩⟩
end
end Cz

/-! CzJ: methods called in a try; lists compared; isinstance of an instance. -/
namespace Cz
open PySem PySem.Spec PyProof.Rows L2
section
variable {X : Cx} {CX : CXT} {k : Nat} {C f : Addr} {fd : FuncData} {ps : List Str} {m : Str} {sp : Sp} {E : L2.St → XK} {o e : Expr} {es : List Expr} {ta : TE} {t : TA} {apos pos : Pos} {pl : Sem Bool}
def tMethE (C : Addr) (m : Str) (sp : Sp) (E : L2.St → XK) (ta : TE) (t : TA) : TE := fun σ H Q => ta σ H fun x H1 => ∃ a dx fs, x = .ref a ∧ H1 a = some (.ins C dx fs) ∧ fs.lookup m = none ∧ t σ H1 fun vs H2 => sp (x :: vs) H2 Q (E σ)
theorem pe_methE (he : PE X o ta) (c : Cls X.K C) (hm : Meth X.K C m f) (F : FnOk X.prog X.w X.K X.mg X.base CX k f fd ps sp) (hr : Room k X.A) (hb : Binds X.K fd ps []) (hx : ∀ σ, PassesAt CX X σ (E σ)) (ha : PA X (e :: es) t)
    (hst : starEach (e :: es) X.env = (false, eval e X.env) :: starEach es X.env := by rfl) (hpl : (backTo pos (starEach es X.env)).any (·.1) = false := by rfl)
    (ht : eval (.Call (.Attribute o m apos) (e :: es) [] pos) X.env = (do
      let ov ← eval o X.env
      standAt apos.atName
      let (f, first) ← holding [ov] (getMethod ov m pl)
      callWith pos f first (backTo pos (starEach (e :: es) X.env)) (backToKw pos (keywordEach [] X.env))) := by rfl) :
    PE X (.Call (.Attribute o m apos) (e :: es) [] pos) (tMethE C m sp E ta t) := by
  refine ⟨fun pins s σ H Q I h => ?_⟩
  refine PySem.W.methodCall_KW (pl := pl) (thn (he.run pins s σ H _ I h) fun u s1 ⟨x, H1, I1, rx, a, dx, fs, ex, ea, l, q⟩ => ?_) ht
  subst ex
  obtain rfl : u = Value.ref a := rx
  refine getmeth_ok I1 ea c hm l ?_
  refine PySem.W.callWith_K (first := [.ref a]) (h₀ := X.base) I.ok.mod.kin hm.kp (thn (ha.run pos pins s1 σ H1 _ I1 q) fun us s2 ⟨vs, H2, I2, r, q2⟩ => ⟨I2.kIn, ?_⟩) hst hpl
  exact run_fnS (us := .ref a :: us) (vs := .ref a :: vs) F hr hb (hx σ) I2 (.cons rfl r) q2
end
section
variable {K : PySem.W.Frag} {Γ : List D} {W : WX} {P : Po}
theorem ev_methE {ta : TE} {C : Addr} {ns : List Str} {ts : List T} {m : Str} {t : TA} {ds : List D} {x : T} {R : List D → Rs → Prop} {Ex : L2.St → XK} (h : Ev K ta Γ (.obj C ns ts)) (hm : ns.all (fun n => !decide (n = m)) = true) (ha : EvA K t Γ ds) (hp : R (.t (.obj C ns ts) :: ds) (.ok (.t x))) :
    Ev K (tMethE C m (spX K R) Ex ta t) Γ x := fun H0 A σ H Q E q =>
  h H0 A σ H _ E fun v H1 s1 r1 => by
    cases r1 with
    | obj e en rs =>
      refine ⟨_, _, _, rfl, e, fld_none en hm, ha H0 A σ H1 _ (E.mono s1) fun vs H2 s2 r2 => ?_⟩
      refine ⟨_, _, hp, .cons (Rp.mono (Imm.of_same s2) (.obj e en rs)) r2, fun v H3 s3 r3 => q v H3 (s1.trans (s2.trans s3)) r3⟩
theorem eve_methE {ta : TE} {C Ce : Addr} {ns : List Str} {ts : List T} {m : Str} {t : TA} {ds : List D} {R : List D → Rs → Prop} (h : Ev K ta Γ (.obj C ns ts)) (hm : ns.all (fun n => !decide (n = m)) = true) (ha : EvA K t Γ ds) (hp : R (.t (.obj C ns ts) :: ds) (.er Ce)) :
    EvE K W (tMethE C m (spX K R) (WE W) ta t) Γ Ce := fun H0 A σ H Q E q =>
  h H0 A σ H _ E fun v H1 s1 r1 => by
    cases r1 with
    | obj e en rs =>
      refine ⟨_, _, _, rfl, e, fld_none en hm, ha H0 A σ H1 _ (E.mono s1) fun vs H2 s2 r2 => ?_⟩
      refine ⟨_, _, hp, .cons (Rp.mono (Imm.of_same s2) (.obj e en rs)) r2, fun H3 s3 => q H3 (s1.trans (s2.trans s3))⟩
/-- lists of plain data -/
structure PlL (xs : List T) : Prop where
  pl : T.pls xs = true
  sh : SeqAt.shaped (.list (T.pys xs)) = true
theorem ev_eqL {ta tb : TE} {xs ys : List T} (px : PlL xs) (py : PlL ys) (ha : EvL K ta Γ xs) (hb : EvL K tb Γ ys) : Ev K (tOp (rEqD K) ta tb) Γ (.bl (PyData.eqv (.list (T.pys xs)) (.list (T.pys ys)))) := fun H0 A σ H Q E q =>
  ha H0 A σ H _ E fun a vs H1 s1 q1 r1 => hb H0 A σ H1 _ (E.mono s1) fun b ws H2 s2 q2 r2 =>
    ⟨_, _, .lst (s2.seq q1) (Rps.dps (r1.mono (Imm.of_same s2)) px.pl), .lst q2 (Rps.dps r2 py.pl), px.sh, py.sh, q _ H2 (s1.trans s2) (.bl _)⟩
/-- isinstance of an instance -/
structure InsC (K : PySem.W.Frag) (C : Addr) : Prop where
  cl : Cls K C
  ha : PySem.W.findIn K (.ref C) "__class__" = some (some (.builtin "object.__class__"))
  hn : PySem.W.specialIn K (.builtin "object.__class__") "__get__" = some (some (.builtin "getset_descriptor.__get__"))
  ht : PySem.W.takesIn K (.builtin "object.__class__") = some true
  hm : PySem.W.mroIn K C (.type "object") = some true
theorem ev_isO {te : TE} {C : Addr} {ns : List Str} {ts : List T} {m : String} {b : Bool} (I : InsC K C) (h : Ev K te Γ (.obj C ns ts)) (k : PySem.W.kitOne K (.ref C) (.type m) = some b) : Ev K (tCB (rIsi K) (tCons te (tCons (tC (.ty m)) tNil))) Γ (.bl b) :=
  ev_isi h (.ty m) fun v H r => by
    cases r with
    | obj e en rs => exact ⟨_, .base (.ins e I.cl I.ha I.hn I.ht I.hm), k⟩
theorem ev_orT {ta tb : TE} (h : Ev K ta Γ (.bl true)) : Ev K (tOrV ta tb) Γ (.bl true) := ev_orV h (fun z => nomatch z) (fun _ => rfl)
theorem ev_orF {ta tb : TE} {b : Bool} (h : Ev K ta Γ (.bl false)) (k : Ev K tb Γ (.bl b)) : Ev K (tOrV ta tb) Γ (.bl b) := ev_orV h (fun _ => k) (fun z => nomatch z)
/-- the suite of one of two classes -/
def tCls2 (A B : Addr) (f g : Addr → TS) : Addr → Value → Option Addr → TS := fun a cls d D σ H => d = none ∧ ((cls = .ref A ∧ f a D σ H) ∨ (cls = .ref B ∧ g a D σ H))
theorem pss_cls2 {X : Cx} {sts : List Stmt} {A B : Addr} {f g : Addr → TS} {a : Addr} {cls : Value} {d : Option Addr} (h1 : cls = .ref A → d = none → PSs X sts (f a)) (h2 : cls = .ref B → d = none → PSs X sts (g a)) : PSs X sts (tCls2 A B f g a cls d) := ⟨fun pins s σ H D I q => by
  obtain ⟨e2, ⟨e1, q⟩ | ⟨e1, q⟩⟩ := q
  · exact (h1 e1 e2).run pins s σ H D I q
  · exact (h2 e1 e2).run pins s σ H D I q⟩
theorem sv_cls2a {A B : Addr} {f g : Addr → TS} {a : Addr} (h : Sv K W (f a) Γ P) : Sv K W (tCls2 A B f g a (.ref A) none) Γ P := fun H0 A' σ H E hE M => ⟨rfl, .inl ⟨rfl, h H0 A' σ H E hE M⟩⟩
theorem sv_cls2b {A B : Addr} {f g : Addr → TS} {a : Addr} (h : Sv K W (g a) Γ P) : Sv K W (tCls2 A B f g a (.ref B) none) Γ P := fun H0 A' σ H E hE M => ⟨rfl, .inr ⟨rfl, h H0 A' σ H E hE M⟩⟩
end
end Cz

/-! CzJ2: a constructor called in a try. -/
namespace Cz
open PySem PySem.Spec PyProof.Rows L2
section
variable {X : Cx} {CX : CXT} {k : Nat} {C f : Addr} {fd : FuncData} {ps : List Str} {x : Str} {sp : Sp} {E : L2.St → XK} {e : Expr} {es : List Expr} {t : TA} {p pos : Pos}
def tMakeE (C : Addr) (sp : Sp) (E : L2.St → XK) (t : TA) : TE := fun σ H Q => t σ H fun vs H1 => ∀ x dx, H1 x = none → H1 dx = none → dx ≠ x →
  sp (.ref x :: vs) (upd (upd H1 dx (.own x)) x (.ins C dx [])) (fun v H2 => v = .non ∧ Q (.ref x) H2) (E σ)
theorem run_makeE {pins : List (Addr × Obj)} {σ : L2.St} {H : Hp} {s : Shared} {Q : VK} {us : List Value} {vs : List V} (M : Mk X.K C f) (F : FnOk X.prog X.w X.K X.mg X.base CX k f fd ps sp) (hr : Room (k + 1) X.A) (hb : Binds X.K fd ps [])
    (hx : PassesAt CX X σ (E σ)) (I : Inv X pins σ H s) (r : Vals vs us)
    (h : ∀ x dx, H x = none → H dx = none → dx ≠ x → sp (.ref x :: vs) (upd (upd H dx (.own x)) x (.ins C dx [])) (fun v H2 => v = .non ∧ Q (.ref x) H2) (E σ)) :
    wpAny (model X.prog X.w) X.A (call (.ref C) us) (EP X pins σ Q) X.xe s := by
  have hq := h (s.heap.objs.size + 1) s.heap.objs.size (I.hok.fresh (Nat.le_succ _)) (I.hok.fresh (Nat.le_refl _)) (Nat.ne_of_lt (Nat.lt_succ_self _))
  have I2 := Inv.made (C := C) I
  have r2 : Vals (V.ref (s.heap.objs.size + 1) :: vs) (Value.ref (s.heap.objs.size + 1) :: us) := .cons rfl r
  have hl : (Value.ref (s.heap.objs.size + 1) :: us).length = ps.length := by
    have e := r2.length
    rw [F.len _ _ _ _ hq] at e
    exact e.symm
  have b := hb _ (Value.ref (s.heap.objs.size + 1) :: us) I2.kIn (by rw [List.append_nil]; exact hl)
  rw [List.append_nil] at b
  refine wpAny_call (make_map (f := f) I.kIn M.makes M.init (beq_iff_eq.mp M.fn) (codeAny_mono (F.run _ X.stack _ _ ⟨Value.ref (s.heap.objs.size + 1) :: us, []⟩ (Value.ref (s.heap.objs.size + 1) :: us) _ _ (E σ) (hr.make C us [])
    (I2.env0.make C us []) b r2 hq) fun r s' hq' => ?_))
  cases r with
  | error e => exact hx pins _ _ e s' I2 hq'
  | ok fl =>
    cases fl with
    | ret u =>
      obtain ⟨v, H', I3, rv, ev, q3⟩ := I2.after hq'
      subst ev
      exact ⟨rv, ⟨V.ref (s.heap.objs.size + 1), H', I3, rfl, q3⟩⟩
    | next => exact False.elim hq'
    | brk => exact False.elim hq'
    | cont => exact False.elim hq'
theorem pe_makeE (M : Mk X.K C f) (F : FnOk X.prog X.w X.K X.mg X.base CX k f fd ps sp) (hr : Room (k + 1) X.A) (hg : Gl X x) (hm : X.mg x = some (.ref C)) (hb : Binds X.K fd ps []) (hx : ∀ σ, PassesAt CX X σ (E σ))
    (ha : PA X (e :: es) t) (hdb : (x == ("__debug__" : Str)) = false := by decide) (he : starEach (e :: es) X.env = (false, eval e X.env) :: starEach es X.env := by rfl) (hpl : (backTo pos (starEach es X.env)).any (·.1) = false := by rfl) :
    PE X (.Call (.Name x p) (e :: es) [] pos) (tMakeE C sp E t) := by
  refine ⟨fun pins s σ H Q I h => ?_⟩
  refine wpAny_Call_Name_kw (ld_glob I hg hm ?_ hdb)
  refine PySem.W.callWith_K (h₀ := X.base) I.ok.mod.kin M.kp (thn (ha.run pos pins s σ H _ I h) fun us s1 ⟨vs, H1, I1, r, q⟩ => ⟨I1.kIn, ?_⟩) he hpl
  exact run_makeE M F hr hb (hx σ) I1 r q
end
section
variable {K : PySem.W.Frag} {Γ : List D} {W : WX} {P : Po}
theorem ev_makeE {t : TA} {ds : List D} {C : Addr} {ns : List Str} {ts : List T} {R : List D → Rs → Prop} {Ex : L2.St → XK} (ha : EvA K t Γ ds) (hp : R ds (.ok (.t (.obj C ns ts)))) : Ev K (tMakeE C (spI K C R) Ex t) Γ (.obj C ns ts) := fun H0 A σ H Q E q =>
  ha H0 A σ H _ E fun vs H1 s1 r1 => fun x dx nx ndx ne => by
    have s2 : Same H1 (hid (upd (upd H1 dx (.own x)) x (.ins C dx [])) x) := fun b o e => by
      rw [hid_ne (ne_of_none e nx), upd_ne (ne_of_none e nx), upd_ne (ne_of_none e ndx)]
      exact e
    refine ⟨x, dx, vs, ds, _, rfl, upd_same, hp, r1.mono s2, rfl, fun H' fs k e en rs => ⟨rfl, ?_⟩⟩
    have s3 : Same H1 H' := Same.made nx ndx k
    exact q _ H' (s1.trans s3) (.obj e en (rs.mono (Imm.of_same hid_same)))
theorem eve_makeE {t : TA} {ds : List D} {C Ce : Addr} {R : List D → Rs → Prop} (ha : EvA K t Γ ds) (hp : R ds (.er Ce)) : EvE K W (tMakeE C (spI K C R) (WE W) t) Γ Ce := fun H0 A σ H Q E q =>
  ha H0 A σ H _ E fun vs H1 s1 r1 => fun x dx nx ndx ne => by
    have s2 : Same H1 (hid (upd (upd H1 dx (.own x)) x (.ins C dx [])) x) := fun b o e => by
      rw [hid_ne (ne_of_none e nx), upd_ne (ne_of_none e nx), upd_ne (ne_of_none e ndx)]
      exact e
    exact ⟨x, dx, vs, ds, _, rfl, upd_same, hp, r1.mono s2, fun H' k => q H' (s1.trans (Same.made nx ndx k))⟩
end
end Cz

/-! CzE: an instance == a text: False. -/
namespace Cz
open PySem PySem.Spec PyProof.Rows L2
section
variable {X : Cx} {C : Addr}
theorem op_eqInsStr (hf : PySem.W.findIn X.K (.ref C) "__eq__" = some (some (.builtin "object.__eq__"))) (hm : PySem.W.mroIn X.K C (.type "object") = some true) (hs : PySem.W.subIn X.K (.type "str") (.ref C) = some false) (hu : X.A.units < cLine) :
    OpR X (compareOp .Eq) (fun x y H Q => ∃ a dx fs z, x = .ref a ∧ y = .str z ∧ H a = some (.ins C dx fs) ∧ Q (.bl false) H) := by
  intro pins s σ H x y v u Q I rx ry h
  obtain ⟨a, dx, fs, z, rfl, rfl, ea, q⟩ := h
  obtain rfl : v = Value.ref a := rx
  obtain ⟨t, rfl⟩ := ry
  obtain ⟨mA, O, hO⟩ := ins_get I.hok ea
  obtain ⟨od, J, hJ⟩ := O.look
  have KI := I.kIn
  show wpAny _ X.A (richCompare .Eq (.ref a) (.str z t)) _ X.xe s
  unfold richCompare
  simp only [oneThing_ref]
  refine wpAny_holding (wpAny_bind (wpAny_cRoomFor hu ?_))
  refine wpAny_bind (J.type.here (wpAny_bind (wpAny_typeOf (typeIs_str s z t) ?_)))
  have hne : (Value.ref C != Value.type "str") = true := rfl
  simp only [hne, if_true]
  refine wpAny_bind ((PySem.W.looks_subIn KI hs).here ?_)
  simp only [Bool.false_eq_true, if_false, Bool.not_false, if_true]
  have c1 : ∀ {Q' : Value → Shared → Prop} {E' : Value → Shared → Prop}, Q' .notImplemented s → wpAny (model X.prog X.w) X.A (call (.builtin "object.__eq__") [.ref a, .str z t]) Q' E' s := fun {Q' E'} hq => by
    refine wpAny_call (codeAny_call_builtin F.cmp_object.eq.plain F.cmpEntry_eq ?_)
    simp only [checkBuiltinCall, F.cmpKind_eq, F.cmpSplit_eq]
    refine wpAny_bind ?_
    unfold isInstance
    refine wpAny_bind (J.type.here ?_)
    refine (PySem.W.looks_mroIn KI hm).here ?_
    simp only [Bool.not_true, Bool.false_eq_true, if_false]
    have entry : ∀ {Q2 : Fin → Shared → Prop} {E2 : Value → Shared → Prop}, Q2 (.done (.ret .notImplemented)) s → wpAny (model X.prog X.w) X.A.in1 (Builtin.«object.__eq__» ⟨[.ref a, .str z t], []⟩) Q2 E2 s := fun {Q2 E2} h => by
      unfold Builtin.«object.__eq__»
      repeat (any_goals (first | assumption | wp_step))
    have ha := F.cmpArgs_eq (.ref a) (.str z t)
    cases hsig : Manifest.signature? "object.__eq__" with
    | none => exact wpAny_pure (entry hq)
    | some sig =>
      simp only [argsOk, hsig] at ha
      have h2 : Bind.checkArgs "object.__eq__" sig ⟨[.ref a, .str z t], []⟩ = pure () := ha
      show wpAny _ _ (Bind.checkArgs "object.__eq__" sig ⟨[.ref a, .str z t], []⟩) _ _ _
      rw [h2]
      exact wpAny_pure (entry hq)
  have one : wpAny (model X.prog X.w) X.A (tryCompare (.ref a) (cmpInfo CmpOp.Eq).2.fst (.str z t)) (fun r s' => r = none ∧ s' = s) X.xe s := by
    unfold tryCompare
    refine wpAny_bind ?_
    simp only [callSpecialIfBound?, bindSpecialIfBound?]
    refine wpAny_holding (wpAny_bind (wpAny_bind (wpAny_bind (J.type.here ((PySem.W.looks_findIn KI hf).here ?_)))))
    refine wpAny_bind (wpAny_askSetting (wpAny_ite ?_))
    have fin : ∀ {Q' : Option Value → Shared → Prop} {E' : Value → Shared → Prop}, Q' (some .notImplemented) s → wpAny (model X.prog X.w) X.A (call (.builtin "object.__eq__") ([.ref a] ++ [.str z t]) >>= fun v => pure (some v)) Q' E' s := fun h' => wpAny_bind (c1 (wpAny_pure h'))
    split
    · refine wpAny_bind ?_
      rw [F.cmp_object.eq.bind]
      exact wpAny_pure (wpAny_pure (fin (wpAny_pure ⟨rfl, rfl⟩)))
    · refine wpAny_tryCatch (wpAny_bind ?_)
      rw [F.cmp_object.eq.bind]
      exact wpAny_pure (wpAny_pure (fin (wpAny_pure ⟨rfl, rfl⟩)))
  have two : wpAny (model X.prog X.w) X.A (tryCompare (.str z t) (cmpInfo CmpOp.Eq).2.snd (.ref a)) (fun r s' => r = none ∧ s' = s) X.xe s := by
    refine wpAny_tryCompare_declines (typeIs_str s z t) F.slot_str_eq_refl ?_
    refine wpAny_call (codeAny_call_builtin F.slot_str_eq_refl.plain F.entry_str_eq (F.slot_str_eq_refl.check _ _ _ _ _ _ _ _ (typeIs_str s z t) (F.args_str_eq_2 _ _) ?_))
    unfold Builtin.«str.__eq__» Builtin.Str.strCompare
    have ha := J.at_
    repeat (any_goals (first | assumption | wp_step))
    exact ⟨rfl, rfl, rfl⟩
  refine wpAny_bind (m := tryCompare _ _ _) (wpAny_mono one (fun r s' hr => ?_) fun _ _ e => e)
  obtain ⟨rfl, rfl⟩ := hr
  refine wpAny_bind (m := tryCompare _ _ _) (wpAny_mono two (fun r s'' hr => ?_) fun _ _ e => e)
  obtain ⟨rfl, rfl⟩ := hr
  refine wpAny_bind (wpAny_rule (wpAny_bind (wpAny_of_eq (a := false) rfl (wpAny_pure ?_))))
  exact ⟨.bl false, H, I, rfl, q⟩
end
end Cz

/-! CzF: a list is taken apart; an item of a short list. -/
namespace Cz
open PySem PySem.Spec PyProof.Rows L2
section
variable {X : Cx} {pos : Pos}
theorem pgk_lst (K : PySem.W.Frag) {es : List Expr} {k : Nat} {t : TGs} {n : Nat} (hc : X.calm = true) (h : PGs X es t)
    (hn : (assignEach es X.env).length = n := by rfl) (hst : (assignEach es X.env).findIdx? (·.1) = none := by rfl) (hK : X.K = K := by rfl) : PG X (.Tuple es k pos) (gLst K n t) := by
  subst hK
  exact pg_lst hc h hn hst
end
section
variable {K : PySem.W.Frag} {Γ : List D} {W : WX} {P : Po}
theorem sv_asgL {te : TE} {u : TGs} {xs : List T} {n : Nat} {G : List D} (h : EvF K te Γ xs) (e : xs.length = n) (hg : Gds K u Γ xs G) (hn : P.nx G) : Sv K W (tAsg te (gLst K n u)) Γ P := fun H0 A σ H E hE M =>
  h H0 A σ H _ hE fun p vs H1 np s e1 r => ⟨p, vs, rfl, .of e1, by rw [r.length]; exact e, hg H0 A σ H1 vs _ (hE.mono s) r fun σ1 E1 g => M.nx G A σ1 H1 hn E1 (g.same_then s)⟩
end
theorem pick4 (x p q r s : Int) : ∃ y, L2.atI [T.int p, T.int q, T.int r, T.int s] (x % 4) = some (.int y) ∧ (y = p ∨ y = q ∨ y = r ∨ y = s) := by
  have h : x % 4 = 0 ∨ x % 4 = 1 ∨ x % 4 = 2 ∨ x % 4 = 3 := by omega
  rcases h with h | h | h | h <;> rw [h]
  · exact ⟨p, rfl, .inl rfl⟩
  · exact ⟨q, rfl, .inr (.inl rfl)⟩
  · exact ⟨r, rfl, .inr (.inr (.inl rfl))⟩
  · exact ⟨s, rfl, .inr (.inr (.inr rfl))⟩
theorem pick3 (x p q r : Int) : ∃ y, L2.atI [T.int p, T.int q, T.int r] (x % 3) = some (.int y) ∧ (y = p ∨ y = q ∨ y = r) := by
  have h : x % 3 = 0 ∨ x % 3 = 1 ∨ x % 3 = 2 := by omega
  rcases h with h | h | h <;> rw [h]
  · exact ⟨p, rfl, .inl rfl⟩
  · exact ⟨q, rfl, .inr (.inl rfl)⟩
  · exact ⟨r, rfl, .inr (.inr rfl)⟩
end Cz

namespace Kx
open PySem PyProof.Rows L2 Cz
/-! ## tables of forms -/
theorem sqnn (a : Int) : 0 ≤ a * a := by
  rcases Int.le_total 0 a with h | h
  · exact Int.mul_nonneg h h
  · exact Int.mul_nonneg_of_nonpos_of_nonpos h h
def okI (x : Int) : Bool := decide (-1000 ≤ x) && decide (x ≤ 1000)
def itemsB (m : Mat) : List Bool := [okI m.a.x, okI m.a.y, okI m.a.z, okI m.b.x, okI m.b.y, okI m.b.z, okI m.c.x, okI m.c.y, okI m.c.z]
def itemsOk (m : Mat) : Bool := (itemsB m).all id
def belowZ (m : Mat) : Bool := decide (m.a.x < 0) && decide (m.a.x * m.b.y - m.a.y * m.a.y > 0)
def formOk (m : Mat) : Bool := itemsOk m && (decide (m = m.tr) && ((decide (-500 ≤ det m) && decide (det m ≤ -1)) && !belowZ m))
def cong (A T : Mat) : Mat := mul T.tr (mul A T)
def Q (A : Mat) (v : Row) : Int := dot v (image A v)
theorem formOk_items {m : Mat} (h : formOk m = true) : itemsOk m = true := by
  simp only [formOk, Bool.and_eq_true] at h
  exact h.1
theorem formOk_sym {m : Mat} (h : formOk m = true) : m = m.tr := by
  simp only [formOk, Bool.and_eq_true, decide_eq_true_eq] at h
  exact h.2.1
theorem formOk_det {m : Mat} (h : formOk m = true) : -500 ≤ det m ∧ det m ≤ -1 := by
  simp only [formOk, Bool.and_eq_true, decide_eq_true_eq] at h
  exact h.2.2.1
theorem formOk_bz {m : Mat} (h : formOk m = true) : belowZ m = false := by
  simp only [formOk, Bool.and_eq_true, Bool.not_eq_true'] at h
  exact h.2.2.2
theorem formOk_of {m : Mat} (h1 : itemsOk m = true) (h2 : m = m.tr) (h3 : -500 ≤ det m ∧ det m ≤ -1) (h4 : belowZ m = false) : formOk m = true := by
  simp only [formOk, Bool.and_eq_true, Bool.not_eq_true', decide_eq_true_eq]
  exact ⟨h1, h2, h3, h4⟩
theorem okI_iff (x : Int) : okI x = true ↔ -1000 ≤ x ∧ x ≤ 1000 := by
  simp only [okI, Bool.and_eq_true, decide_eq_true_eq]
theorem okI_sm {x : Int} (h : okI x = true) : Sm 10 x := by
  have := (okI_iff x).mp h
  unfold Sm
  omega
theorem items_iff (m : Mat) : itemsOk m = true ↔ okI m.a.x = true ∧ okI m.a.y = true ∧ okI m.a.z = true ∧ okI m.b.x = true ∧ okI m.b.y = true ∧ okI m.b.z = true ∧ okI m.c.x = true ∧ okI m.c.y = true ∧ okI m.c.z = true := by
  simp only [itemsOk, itemsB, List.all_cons, List.all_nil, Bool.and_eq_true, Bool.and_true, id]
theorem items_sm {m : Mat} (h : itemsOk m = true) : m.sm 10 := by
  obtain ⟨a, b, c, d, e, f, g, i, j⟩ := (items_iff m).mp h
  exact ⟨⟨okI_sm a, okI_sm b, okI_sm c⟩, ⟨okI_sm d, okI_sm e, okI_sm f⟩, ⟨okI_sm g, okI_sm i, okI_sm j⟩⟩
theorem Q_cong (A T : Mat) (v : Row) : Q (cong A T) v = Q A (image T v) := by
  simp only [Q, cong, image, mul, Mat.tr, dot]; grind
theorem det_tr (m : Mat) : det m.tr = det m := by
  simp only [det, Mat.tr, dot, cross]; grind
theorem det_cong (A T : Mat) : det (cong A T) = det A * (det T * det T) := by
  unfold cong
  rw [det_mul, det_mul, det_tr]; grind
theorem sym_ij {m : Mat} (h : m = m.tr) : m.a.y = m.b.x ∧ m.a.z = m.c.x ∧ m.b.z = m.c.y := by
  obtain ⟨⟨a, b, c⟩, ⟨d, e, f⟩, ⟨g, i, j⟩⟩ := m
  simp only [Mat.tr, Mat.mk.injEq, Row.mk.injEq] at h
  simp only
  omega
theorem cong_sym {A : Mat} (T : Mat) (h : A = A.tr) : cong A T = (cong A T).tr := by
  obtain ⟨h1, h2, h3⟩ := sym_ij h
  apply Mat.ext' <;> apply Row.ext' <;> (simp only [cong, image, mul, Mat.tr, dot, h1, h2, h3]; try grind)
/-- a(ad - b²)Q as a sum of squares -/
theorem Q_squares {m : Mat} (h : m = m.tr) (v : Row) :
    (m.a.x * (m.a.x * m.b.y - m.a.y * m.a.y)) * Q m v = (m.a.x * m.b.y - m.a.y * m.a.y) * ((m.a.x * v.x + m.a.y * v.y + m.a.z * v.z) * (m.a.x * v.x + m.a.y * v.y + m.a.z * v.z))
      + ((m.a.x * m.b.y - m.a.y * m.a.y) * v.y + (m.a.x * m.b.z - m.a.y * m.a.z) * v.z) * ((m.a.x * m.b.y - m.a.y * m.a.y) * v.y + (m.a.x * m.b.z - m.a.y * m.a.z) * v.z)
      + m.a.x * det m * (v.z * v.z) := by
  obtain ⟨h1, h2, h3⟩ := sym_ij h
  simp only [Q, det, image, dot, cross, ← h1, ← h2, ← h3]
  grind
theorem Q_below {m : Mat} (h : m = m.tr) (hd : det m < 0) (hb : belowZ m = true) (v : Row) : Q m v ≤ 0 := by
  simp only [belowZ, Bool.and_eq_true, decide_eq_true_eq] at hb
  obtain ⟨ha, hD⟩ := hb
  have hs := Q_squares h v
  generalize m.a.x * m.b.y - m.a.y * m.a.y = D at *
  have h1 : 0 ≤ D * ((m.a.x * v.x + m.a.y * v.y + m.a.z * v.z) * (m.a.x * v.x + m.a.y * v.y + m.a.z * v.z)) := Int.mul_nonneg (by omega) (sqnn _)
  have h2 : 0 ≤ (D * v.y + (m.a.x * m.b.z - m.a.y * m.a.z) * v.z) * (D * v.y + (m.a.x * m.b.z - m.a.y * m.a.z) * v.z) := sqnn _
  have h3 : 0 ≤ m.a.x * det m * (v.z * v.z) := Int.mul_nonneg (Int.le_of_lt (Int.mul_pos_of_neg_of_neg ha hd)) (sqnn _)
  have h4 : 0 ≤ (m.a.x * D) * Q m v := by rw [hs]; omega
  have h5 : m.a.x * D < 0 := Int.mul_neg_of_neg_of_pos ha hD
  by_cases hq : Q m v ≤ 0
  · exact hq
  · have : (m.a.x * D) * Q m v < 0 := Int.mul_neg_of_neg_of_pos h5 (by omega)
    omega
theorem Q_above {m : Mat} (h : m = m.tr) (hd : det m < 0) (hb : belowZ m = false) : ∃ v, 0 < Q m v := by
  obtain ⟨h1, h2, h3⟩ := sym_ij h
  simp only [belowZ, Bool.and_eq_false_iff, decide_eq_false_iff_not] at hb
  obtain ⟨⟨a, b, c⟩, ⟨b', d, e⟩, ⟨c', e', f⟩⟩ := m
  simp only at h1 h2 h3 hb
  subst h1 h2 h3
  by_cases ha : 0 < a
  · exact ⟨⟨1, 0, 0⟩, by simp only [Q, image, dot]; omega⟩
  by_cases ha0 : a = 0
  · subst ha0
    by_cases hb0 : b = 0
    · subst hb0
      have hd' : det ⟨⟨0, 0, c⟩, ⟨0, d, e⟩, ⟨c, e, f⟩⟩ = -(c * c * d) := by simp only [det, dot, cross]; grind
      rw [hd'] at hd
      have hdp : 0 < d := by
        by_cases z : 0 < d
        · exact z
        · have : 0 ≤ c * c * (-d) := Int.mul_nonneg (sqnn _) (by omega)
          rw [Int.mul_neg] at this
          omega
      exact ⟨⟨0, 1, 0⟩, by simp only [Q, image, dot]; omega⟩
    · by_cases z : 0 < d
      · exact ⟨⟨0, 1, 0⟩, by simp only [Q, image, dot]; omega⟩
      · refine ⟨⟨b * (1 - d), 1, 0⟩, ?_⟩
        have e1 : Q ⟨⟨0, b, c⟩, ⟨b, d, e⟩, ⟨c, e, f⟩⟩ ⟨b * (1 - d), 1, 0⟩ = 2 * (b * b * (1 - d)) + d := by simp only [Q, image, dot]; grind
        rw [e1]
        have hbb : 1 ≤ b * b := by
          have := sqnn b
          have : b * b ≠ 0 := fun z => by
            rcases Int.mul_eq_zero.mp z with z | z <;> exact hb0 z
          omega
        have : 1 * (1 - d) ≤ b * b * (1 - d) := Int.mul_le_mul_of_nonneg_right hbb (by omega)
        omega
  · have hn : a < 0 := by omega
    have hD : a * d - b * b ≤ 0 := by
      rcases hb with z | z
      · exact absurd hn z
      · omega
    by_cases hD0 : a * d - b * b = 0
    · exfalso
      have e1 : a * det ⟨⟨a, b, c⟩, ⟨b, d, e⟩, ⟨c, e, f⟩⟩ = (a * d - b * b) * (a * f - c * c) - (a * e - b * c) * (a * e - b * c) := by simp only [det, dot, cross]; grind
      rw [hD0, Int.zero_mul] at e1
      have := Int.mul_pos_of_neg_of_neg hn hd
      have := sqnn (a * e - b * c)
      omega
    · refine ⟨⟨-b, a, 0⟩, ?_⟩
      have e1 : Q ⟨⟨a, b, c⟩, ⟨b, d, e⟩, ⟨c, e, f⟩⟩ ⟨-b, a, 0⟩ = a * (a * d - b * b) := by simp only [Q, image, dot]; grind
      rw [e1]
      exact Int.mul_pos_of_neg_of_neg hn (by omega)
/-- a form moved by a table that has an inverse is one, if its items are in their range -/
theorem formOk_cong {A T U : Mat} (h : formOk A = true) (hT : det T * det T = 1) (hU : mul T U = one) (hi : itemsOk (cong A T) = true) : formOk (cong A T) = true := by
  have hs := formOk_sym h
  have hd := formOk_det h
  have hd' : det (cong A T) = det A := by rw [det_cong, hT, Int.mul_one]
  refine formOk_of hi (cong_sym T hs) (by rw [hd']; exact hd) ?_
  cases e : belowZ (cong A T) with
  | false => rfl
  | true =>
    obtain ⟨w, hw⟩ := Q_above hs (by omega) (formOk_bz h)
    have := Q_below (cong_sym T hs) (by rw [hd']; omega) e (image U w)
    rw [Q_cong, ← image_mul, hU, image_one] at this
    omega
/-! last -/
def gI (a b : Int) : Int := ((Nat.gcd a.natAbs b.natAbs : Nat) : Int)
def cmn (g : Int) (r : Row) : Int := gI (gI (gI g r.x) r.y) r.z
def cmnM (m : Mat) : Int := cmn (cmn (cmn (if det m < 0 then -det m else det m) (adj m).a) (adj m).b) (adj m).c
def lastM (m : Mat) : Int := (if det m < 0 then -det m else det m) / cmnM m
def cmnG (g : Int → Int → Int) (x : Int) (r : Row) : Int := g (g (g x r.x) r.y) r.z
theorem gI_dvd (a b : Int) : gI a b ∣ a := by
  have h : ((Nat.gcd a.natAbs b.natAbs : Nat) : Int) ∣ ((a.natAbs : Nat) : Int) := Int.ofNat_dvd.mpr (Nat.gcd_dvd_left _ _)
  exact Int.dvd_natAbs.mp h
theorem cmn_dvd (g : Int) (r : Row) : cmn g r ∣ g := Int.dvd_trans (gI_dvd _ _) (Int.dvd_trans (gI_dvd _ _) (gI_dvd _ _))
theorem cmnM_dvd (m : Mat) : cmnM m ∣ (if det m < 0 then -det m else det m) := Int.dvd_trans (cmn_dvd _ _) (Int.dvd_trans (cmn_dvd _ _) (cmn_dvd _ _))
theorem cmnM_nn (m : Mat) : 0 ≤ cmnM m := Int.natCast_nonneg _
theorem cmnM_pos {m : Mat} (h : det m ≠ 0) : 0 < cmnM m := by
  have h0 := cmnM_nn m
  by_cases z : cmnM m = 0
  · have d := cmnM_dvd m
    rw [z] at d
    have := Int.zero_dvd.mp d
    split at this <;> omega
  · omega
theorem cmnM_le {m : Mat} (h : det m ≠ 0) : cmnM m ≤ (if det m < 0 then -det m else det m) := Int.le_of_dvd (by split <;> omega) (cmnM_dvd m)
theorem bnf {b : Bool} (h : (!b) = true) : b = false := by
  cases b
  · rfl
  · cases h
theorem bnt {b : Bool} (h : (!b) = false) : b = true := by
  cases b
  · cases h
  · rfl
theorem smle {n : Nat} {x y : Int} (h : Sm n x) (h0 : 0 ≤ y) (h1 : y ≤ x) : Sm n y := by
  unfold Sm at *
  have : y.natAbs ≤ x.natAbs := by omega
  exact Nat.lt_of_le_of_lt this h
theorem divok {n : Nat} {i j : Int} (h : 0 < j) (k : Sm n j) (z : n ≤ 9000) : CDivW i j :=
  ⟨h, Nat.lt_of_lt_of_le ((Nat.log2_lt (by omega)).mpr k) z⟩
/-! reflections -/
def reflM (A : Mat) (v : Row) : Mat :=
  let n := Q A v
  let u := image A v
  ⟨⟨1 - 2 * u.x / n * v.x, 0 - 2 * u.y / n * v.x, 0 - 2 * u.z / n * v.x⟩, ⟨0 - 2 * u.x / n * v.y, 1 - 2 * u.y / n * v.y, 0 - 2 * u.z / n * v.y⟩, ⟨0 - 2 * u.x / n * v.z, 0 - 2 * u.y / n * v.z, 1 - 2 * u.z / n * v.z⟩⟩
def hsh (v q : Row) : Mat := ⟨⟨1 - q.x * v.x, 0 - q.y * v.x, 0 - q.z * v.x⟩, ⟨0 - q.x * v.y, 1 - q.y * v.y, 0 - q.z * v.y⟩, ⟨0 - q.x * v.z, 0 - q.y * v.z, 1 - q.z * v.z⟩⟩
theorem cong_hsh {A : Mat} {v q : Row} (h : A = A.tr) (hx : q.x * Q A v = 2 * (image A v).x) (hy : q.y * Q A v = 2 * (image A v).y) (hz : q.z * Q A v = 2 * (image A v).z) : cong A (hsh v q) = A := by
  obtain ⟨h1, h2, h3⟩ := sym_ij h
  have e : cong A (hsh v q) = ⟨⟨A.a.x - q.x * (image A v).x - (image A v).x * q.x + q.x * (q.x * Q A v), A.a.y - q.x * (image A v).y - (image A v).x * q.y + q.x * (q.y * Q A v), A.a.z - q.x * (image A v).z - (image A v).x * q.z + q.x * (q.z * Q A v)⟩,
      ⟨A.b.x - q.y * (image A v).x - (image A v).y * q.x + q.y * (q.x * Q A v), A.b.y - q.y * (image A v).y - (image A v).y * q.y + q.y * (q.y * Q A v), A.b.z - q.y * (image A v).z - (image A v).y * q.z + q.y * (q.z * Q A v)⟩,
      ⟨A.c.x - q.z * (image A v).x - (image A v).z * q.x + q.z * (q.x * Q A v), A.c.y - q.z * (image A v).y - (image A v).z * q.y + q.z * (q.y * Q A v), A.c.z - q.z * (image A v).z - (image A v).z * q.z + q.z * (q.z * Q A v)⟩⟩ := by
    apply Mat.ext' <;> apply Row.ext' <;> (simp only [cong, hsh, Q, image, mul, Mat.tr, dot, h1, h2, h3]; grind)
  rw [e]
  have t : ∀ a b c d n : Int, a * n = 2 * c → b * n = 2 * d → a * d = c * b := fun a b c d n ha hb => by
    have : 2 * (a * d) = 2 * (c * b) := by
      have e1 : 2 * (a * d) = a * (2 * d) := by grind
      have e2 : 2 * (c * b) = (2 * c) * b := by grind
      rw [e1, e2, ← ha, ← hb]; grind
    omega
  have f : ∀ k a b c d : Int, a * d = c * b → k - a * d - c * b + a * (2 * d) = k := fun k a b c d e => by
    have : a * (2 * d) = 2 * (a * d) := by grind
    rw [this]; omega
  rw [hx, hy, hz]
  apply Mat.ext' <;> apply Row.ext' <;> (simp only; apply f; apply t <;> assumption)
theorem cong_refl {A : Mat} {v : Row} (h : A = A.tr) (hx : Q A v ∣ 2 * (image A v).x) (hy : Q A v ∣ 2 * (image A v).y) (hz : Q A v ∣ 2 * (image A v).z) : cong A (reflM A v) = A :=
  cong_hsh (q := ⟨2 * (image A v).x / Q A v, 2 * (image A v).y / Q A v, 2 * (image A v).z / Q A v⟩) h (Int.ediv_mul_cancel hx) (Int.ediv_mul_cancel hy) (Int.ediv_mul_cancel hz)
theorem cong_mul (A S T : Mat) : cong A (mul S T) = cong (cong A S) T := by
  apply Mat.ext' <;> apply Row.ext' <;> (simp only [cong, image, mul, Mat.tr, dot]; grind)
end Kx

namespace Kx
open PySem PyProof.Rows L2 Cz
/-! ## what the laws draw: steps, rows, a table of the list, moved -/
def pI (x : Int) : Nat := [0, 0, 1, 1, 2, 2].getD (x % 6).toNat 0
def pJ (x : Int) : Nat := [1, 2, 0, 2, 0, 1].getD (x % 6).toNat 0
def pV (x : Int) : Int := [1, -1, 2, -1].getD (x / 6 % 4).toNat 0
theorem pij (x : Int) : pI x < 3 ∧ pJ x < 3 ∧ pI x ≠ pJ x ∧ ixN 3 ((pI x : Nat) : Int) = some (pI x) ∧ ixN 3 ((pJ x : Nat) : Int) = some (pJ x) := by
  have h : x % 6 = 0 ∨ x % 6 = 1 ∨ x % 6 = 2 ∨ x % 6 = 3 ∨ x % 6 = 4 ∨ x % 6 = 5 := by omega
  unfold pI pJ
  rcases h with h | h | h | h | h | h <;> rw [h] <;> decide
theorem atI_pairs (x : Int) : L2.atI [T.tup [.int 0, .int 1], T.tup [.int 0, .int 2], T.tup [.int 1, .int 0], T.tup [.int 1, .int 2], T.tup [.int 2, .int 0], T.tup [.int 2, .int 1]] (x % 6) = some (.tup [.int (pI x : Nat), .int (pJ x : Nat)]) := by
  have h : x % 6 = 0 ∨ x % 6 = 1 ∨ x % 6 = 2 ∨ x % 6 = 3 ∨ x % 6 = 4 ∨ x % 6 = 5 := by omega
  unfold pI pJ
  rcases h with h | h | h | h | h | h <;> rw [h] <;> rfl
theorem atI_vals (x : Int) : L2.atI [T.int 1, T.int (-1), T.int 2, T.int (-1)] (x / 6 % 4) = some (.int (pV x)) := by
  have h : x / 6 % 4 = 0 ∨ x / 6 % 4 = 1 ∨ x / 6 % 4 = 2 ∨ x / 6 % 4 = 3 := by omega
  unfold pV
  rcases h with h | h | h | h <;> rw [h] <;> rfl
theorem pV_sm (x : Int) : Sm 2 (pV x) := by
  have h : x / 6 % 4 = 0 ∨ x / 6 % 4 = 1 ∨ x / 6 % 4 = 2 ∨ x / 6 % 4 = 3 := by omega
  unfold pV
  rcases h with h | h | h | h <;> rw [h] <;> decide
def stepM (x : Int) : Mat := elem (pI x) (pJ x) (pV x)
def stepsM (ds : List Int) : Nat → Mat
  | 0 => one
  | k + 1 => mul (stepsM ds k) (stepM (dr ds k))
theorem stepsM_sm (ds : List Int) : ∀ k, (stepsM ds k).sm (1 + 4 * k)
  | 0 => one_sm
  | k + 1 => (sm_mul (stepsM_sm ds k) (elem_sm (pV_sm _) (by decide))).mono (by omega)
theorem stepsM_det (ds : List Int) : ∀ k, det (stepsM ds k) = 1
  | 0 => by
    show det one = 1
    decide
  | k + 1 => by
    have h := pij (dr ds k)
    show det (mul (stepsM ds k) (stepM (dr ds k))) = 1
    rw [det_mul, stepsM_det ds k]
    unfold stepM
    rw [elem_det h.1 h.2.1 h.2.2.1] <;> rfl
def rowM (ds : List Int) (most : Int) : Row := ⟨dr ds 0 % (2 * most + 1) - most, dr ds 1 % (2 * most + 1) - most, dr ds 2 % (2 * most + 1) - most⟩
theorem rowM_sm (ds : List Int) {most : Int} (h : 0 ≤ most) (h2 : most < 1000) : (rowM ds most).sm 20 := by
  have f : ∀ x : Int, Sm 20 (x % (2 * most + 1) - most) := fun x => by
    have h1 := Int.emod_nonneg x (by omega : 2 * most + 1 ≠ 0)
    have h3 := Int.emod_lt_of_pos x (by omega : 0 < 2 * most + 1)
    unfold Sm
    omega
  exact ⟨f _, f _, f _⟩
/-- the list of tables, in six numbers each -/
def menuI : List (List Int) := [[1, 0, 0, 1, 0, -1], [1, 0, 0, 1, 0, -2], [1, 0, 0, 1, 0, -3], [1, 0, 0, 2, 0, -1], [1, 0, 0, 1, 0, -5], [1, 0, 0, 3, 0, -1],
  [2, 0, 0, 3, 0, -1], [2, 1, 0, 2, 0, -1], [2, 1, 0, 2, 0, -3], [0, 1, 0, 0, 0, 1], [0, 1, 0, 0, 0, 2], [1, 0, 0, 6, 0, -7],
  [2, 1, 0, 4, 0, -1], [2, 1, 1, -3, 0, 2], [3, 1, -1, 5, 2, -23], [1, 0, 0, 10, 0, -10], [4, 2, 0, 4, 0, -6], [0, 0, 3, 5, 0, 0]]
def six (xs : List Int) : Mat := ⟨⟨xs.getD 0 0, xs.getD 1 0, xs.getD 2 0⟩, ⟨xs.getD 1 0, xs.getD 3 0, xs.getD 4 0⟩, ⟨xs.getD 2 0, xs.getD 4 0, xs.getD 5 0⟩⟩
def menuM : List Mat := menuI.map six
theorem menu_ok : ∀ m ∈ menuM, formOk m = true := by decide +kernel
theorem menuI_len : ∀ xs ∈ menuI, xs.length = 6 := by decide +kernel
def tabA (ds : List Int) : Mat := menuM.getD (dr ds 0 % 18).toNat one
theorem tabA_mem (ds : List Int) : tabA ds ∈ menuM := by
  unfold tabA
  have h0 := Int.emod_nonneg (dr ds 0) (by decide : (18 : Int) ≠ 0)
  have h1 := Int.emod_lt_of_pos (dr ds 0) (by decide : (0 : Int) < 18)
  have h : (dr ds 0 % 18).toNat < menuM.length := by
    show _ < 18
    omega
  rw [List.getD_eq_getElem?_getD, List.getElem?_eq_getElem h]
  exact List.getElem_mem h
theorem tabA_at (ds : List Int) : L2.atI (menuM.map mat) (dr ds 0 % 18) = some (mat (tabA ds)) := by
  have h0 := Int.emod_nonneg (dr ds 0) (by decide : (18 : Int) ≠ 0)
  have h1 := Int.emod_lt_of_pos (dr ds 0) (by decide : (0 : Int) < 18)
  have h : (dr ds 0 % 18).toNat < menuM.length := by
    show _ < 18
    omega
  refine atI_nat' (Int.toNat_of_nonneg h0).symm ?_
  unfold tabA
  rw [List.getElem?_map, List.getD_eq_getElem?_getD, List.getElem?_eq_getElem h]
  rfl
def stepT (ds : List Int) : Mat := stepsM (ds.drop 1) (dr ds 0 / 20 % 4).toNat
def absM (x : Int) : Int := if x < 0 then -x else x
def mxR (r : Row) : Int := mx3 (absM r.x) (absM r.y) (absM r.z)
def mxM (m : Mat) : Int := mx3 (mxR m.a) (mxR m.b) (mxR m.c)
theorem mxM_items {m : Mat} (h : ¬ 1000 < mxM m) : itemsOk m = true := by
  simp only [mxM, mxR, mx3] at h
  have f : ∀ x : Int, absM x ≤ 1000 → okI x = true := fun x hx => by
    rw [okI_iff]
    unfold absM at hx
    split at hx <;> omega
  rw [items_iff]
  refine ⟨f _ ?_, f _ ?_, f _ ?_, f _ ?_, f _ ?_, f _ ?_, f _ ?_, f _ ?_, f _ ?_⟩ <;> omega
theorem items_mxM {m : Mat} (h : itemsOk m = true) : mxM m ≤ 1000 := by
  have f : ∀ x : Int, okI x = true → absM x ≤ 1000 := fun x hx => by
    rw [okI_iff] at hx
    unfold absM
    split <;> omega
  rw [items_iff] at h
  obtain ⟨a, b, c, d, e, g, i, j, k⟩ := h
  have := f _ a; have := f _ b; have := f _ c; have := f _ d; have := f _ e; have := f _ g; have := f _ i; have := f _ j; have := f _ k
  simp only [mxM, mxR, mx3]
  omega
def tabM (ds : List Int) : Mat := if 1000 < mxM (cong (tabA ds) (stepT ds)) then tabA ds else cong (tabA ds) (stepT ds)
theorem unit_inv {T : Mat} (h : det T * det T = 1) : mul T (smul (det T) (adj T)) = one := by
  have e : mul T (smul (det T) (adj T)) = smul (det T) (mul T (adj T)) := by
    apply Mat.ext' <;> apply Row.ext' <;> (simp only [image, mul, Mat.tr, dot, smul]; grind)
  rw [e, mul_adj]
  have e2 : smul (det T) (smul (det T) one) = smul (det T * det T) one := by
    apply Mat.ext' <;> apply Row.ext' <;> (simp only [smul]; grind)
  rw [e2, h]
  decide
theorem form_cong {A T : Mat} (h : formOk A = true) (hT : det T * det T = 1) (hi : itemsOk (cong A T) = true) : formOk (cong A T) = true := formOk_cong h hT (unit_inv hT) hi
theorem tabM_ok (ds : List Int) : formOk (tabM ds) = true := by
  unfold tabM
  split
  · exact menu_ok _ (tabA_mem ds)
  · rename_i h
    refine form_cong (menu_ok _ (tabA_mem ds)) ?_ (mxM_items h)
    rw [stepT, stepsM_det]
    rfl
theorem tabM_sm (ds : List Int) : (tabM ds).sm 20 := (items_sm (formOk_items (tabM_ok ds))).mono (by decide)
/-! the greatest common divisor as the laws find it; roots -/
def gcdStep (_ : Nat) (p : Int × Int) : Int × Int := if p.2 ≠ 0 then (p.2, p.1 % p.2) else p
def com1 (f x : Int) : Int := (itr gcdStep 400 (f, absM x)).1
def comL (xs : List Int) : Int := xs.foldl com1 0
def comM (v : Row) : Int := comL [v.x, v.y, v.z]
theorem absM_nn (x : Int) : 0 ≤ absM x := by
  unfold absM
  split <;> omega
theorem gcdStep_nn {p : Int × Int} (h : 0 ≤ p.2) (k : Nat) : 0 ≤ (gcdStep k p).2 := by
  unfold gcdStep
  split
  · rename_i z
    exact Int.emod_nonneg _ z
  · exact h
theorem itr_nn {p : Int × Int} (h : 0 ≤ p.2) : ∀ k, 0 ≤ (itr gcdStep k p).2
  | 0 => h
  | k + 1 => gcdStep_nn (itr_nn h k) k
def rootB (A : Mat) (v : Row) : List Bool := [decide (2 * (image A v).x % Q A v = 0), decide (2 * (image A v).y % Q A v = 0), decide (2 * (image A v).z % Q A v = 0)]
def rootM (A : Mat) (v : Row) : Bool := if Q A v ≤ 0 ∨ comM v ≠ 1 then false else (rootB A v).all id
theorem rootM_pos {A : Mat} {v : Row} (h : rootM A v = true) : 0 < Q A v := by
  unfold rootM at h
  split at h
  · cases h
  · omega
theorem rootM_keep {A : Mat} {v : Row} (h : rootM A v = true) (hs : A = A.tr) : cong A (reflM A v) = A := by
  unfold rootM at h
  split at h
  · cases h
  · simp only [rootB, List.all_cons, List.all_nil, Bool.and_eq_true, Bool.and_true, id, decide_eq_true_eq] at h
    obtain ⟨h1, h2, h3⟩ := h
    exact cong_refl hs (Int.dvd_of_emod_eq_zero h1) (Int.dvd_of_emod_eq_zero h2) (Int.dvd_of_emod_eq_zero h3)
theorem smdiv {n : Nat} {x y : Int} (h : Sm n x) : Sm n (x / y) := by
  unfold Sm at *
  have := Int.natAbs_ediv_le_natAbs x y
  omega
theorem reflM_sm {A : Mat} {v : Row} {n k : Nat} (hA : A.sm n) (hv : v.sm k) : (reflM A v).sm (n + 2 * k + 10) := by
  have hu := sm_image hA hv
  have f : ∀ (e : Int) (x y : Int), Sm 1 e → Sm (n + k + 2) x → Sm k y → Sm (n + 2 * k + 10) (e - 2 * x / Q A v * y) := fun e x y h1 h2 h3 =>
    (Sm.sub h1 (Sm.mul (smdiv (y := Q A v) (Sm.mul (Sm.of (x := 2) 2 (by decide)) h2)) h3)).mono (by omega)
  have hu' : (image A v).sm (n + k + 2) := hu.mono (by omega)
  have z : Sm 1 0 := by decide
  have o : Sm 1 1 := by decide
  exact ⟨⟨f _ _ _ o hu'.x hv.x, f _ _ _ z hu'.y hv.x, f _ _ _ z hu'.z hv.x⟩, ⟨f _ _ _ z hu'.x hv.y, f _ _ _ o hu'.y hv.y, f _ _ _ z hu'.z hv.y⟩, ⟨f _ _ _ z hu'.x hv.z, f _ _ _ z hu'.y hv.z, f _ _ _ o hu'.z hv.z⟩⟩
end Kx

namespace Kx
open PySem PyProof.Rows L2 Cz
/-! ## inverses -/
def uni (m : Mat) : Bool := decide ((if det m < 0 then -det m else det m) = 1)
def sgn (m : Mat) : Mat := ⟨⟨det m, 0, 0⟩, ⟨0, det m, 0⟩, ⟨0, 0, det m⟩⟩
def inv (m : Mat) : Mat := mul (adj m) (sgn m)
theorem uni_det {m : Mat} (h : uni m = true) : det m = 1 ∨ det m = -1 := by
  unfold uni at h
  have := of_decide_eq_true h
  split at this <;> omega
theorem sgn_one (m : Mat) : sgn m = smul (det m) one := by
  apply Mat.ext' <;> apply Row.ext' <;> (simp only [sgn, smul, one]; grind)
theorem smul_mul (k : Int) (m n : Mat) : mul m (smul k n) = smul k (mul m n) := by
  apply Mat.ext' <;> apply Row.ext' <;> (simp only [image, mul, Mat.tr, dot, smul]; grind)
theorem smul_smul (k j : Int) (m : Mat) : smul k (smul j m) = smul (k * j) m := by
  apply Mat.ext' <;> apply Row.ext' <;> (simp only [smul]; grind)
theorem smul_one1 (m : Mat) : smul 1 m = m := by
  apply Mat.ext' <;> apply Row.ext' <;> (simp only [smul]; grind)
theorem sq1 {m : Mat} (h : uni m = true) : det m * det m = 1 := by
  rcases uni_det h with e | e <;> rw [e] <;> rfl
theorem inv_eq (m : Mat) : inv m = smul (det m) (adj m) := by
  unfold inv
  rw [sgn_one, smul_mul, mul_one']
theorem mul_inv {m : Mat} (h : uni m = true) : mul m (inv m) = one := by
  rw [inv_eq, smul_mul, mul_adj, smul_smul, sq1 h, smul_one1]
theorem uni_of {m : Mat} (h : det m = 1 ∨ det m = -1) : uni m = true := by
  unfold uni
  rcases h with e | e <;> rw [e] <;> decide
theorem uni_iff (m : Mat) : uni m = decide (det m ∈ ([1, -1] : List Int)) := by
  by_cases h : det m = 1 ∨ det m = -1
  · rw [uni_of h]
    symm
    exact decide_eq_true (by simpa using h)
  · have e : uni m = false := by
      cases q : uni m with
      | false => rfl
      | true => exact absurd (uni_det q) h
    rw [e]
    symm
    exact decide_eq_false (by simpa using h)
theorem sgn_sm {m : Mat} {n : Nat} (h : m.sm n) : (sgn m).sm (3 * n + 3) := by
  have o : Sm (3 * n + 3) (det m) := sm_det h
  have z : Sm (3 * n + 3) (0 : Int) := (Sm.of (x := 0) 1 (by decide)).mono (by omega)
  exact ⟨⟨o, z, z⟩, ⟨z, o, z⟩, ⟨z, z, o⟩⟩
theorem inv_sm {m : Mat} {n : Nat} (h : m.sm n) : (inv m).sm (5 * n + 6) := (sm_mul (sm_adj h) (sgn_sm h)).mono (by omega)
theorem uni_one : uni one = true := by decide
theorem uni_inv {m : Mat} (h : uni m = true) : uni (inv m) = true := by
  have e := congrArg det (mul_inv h)
  rw [det_mul] at e
  have e1 : det one = 1 := by decide
  rw [e1] at e
  refine uni_of ?_
  rcases uni_det h with q | q <;> rw [q] at e <;> omega
theorem cong_one (A : Mat) : cong A one = A := by
  apply Mat.ext' <;> apply Row.ext' <;> (simp only [cong, image, mul, Mat.tr, dot, one]; grind)
theorem cong_inv (A : Mat) {m : Mat} (h : uni m = true) : cong (cong A m) (inv m) = A := by
  rw [← cong_mul, mul_inv h, cong_one]
theorem dot_cong (A T : Mat) (v w : Row) : dot v (image (cong A T) w) = dot (image T v) (image A (image T w)) := by
  simp only [cong, image, mul, Mat.tr, dot]; grind
/-! last stays -/
theorem adj_mul_rev (m n : Mat) : adj (mul m n) = mul (adj n) (adj m) := by
  apply Mat.ext' <;> apply Row.ext' <;> (simp only [adj, cross, image, mul, Mat.tr, dot]; grind)
theorem adj_tr (m : Mat) : adj m.tr = (adj m).tr := by
  apply Mat.ext' <;> apply Row.ext' <;> (simp only [adj, cross, Mat.tr]; try grind)
structure DvM (d : Int) (m : Mat) : Prop where
  ax : d ∣ m.a.x
  ay : d ∣ m.a.y
  az : d ∣ m.a.z
  bx : d ∣ m.b.x
  by' : d ∣ m.b.y
  bz : d ∣ m.b.z
  cx : d ∣ m.c.x
  cy : d ∣ m.c.y
  cz : d ∣ m.c.z
theorem dv3 {d a b c : Int} (x y z : Int) (h1 : d ∣ a) (h2 : d ∣ b) (h3 : d ∣ c) : d ∣ a * x + b * y + c * z :=
  Int.dvd_add (Int.dvd_add (Int.dvd_mul_of_dvd_left h1) (Int.dvd_mul_of_dvd_left h2)) (Int.dvd_mul_of_dvd_left h3)
theorem dv3' {d a b c : Int} (x y z : Int) (h1 : d ∣ a) (h2 : d ∣ b) (h3 : d ∣ c) : d ∣ x * a + y * b + z * c :=
  Int.dvd_add (Int.dvd_add (Int.dvd_mul_of_dvd_right h1) (Int.dvd_mul_of_dvd_right h2)) (Int.dvd_mul_of_dvd_right h3)
theorem DvM.mulL {d : Int} {m : Mat} (n : Mat) (h : DvM d m) : DvM d (mul m n) := by
  constructor <;> (simp only [mul, image, Mat.tr, dot]; apply dv3' <;> first | exact h.ax | exact h.ay | exact h.az | exact h.bx | exact h.by' | exact h.bz | exact h.cx | exact h.cy | exact h.cz)
theorem DvM.mulR {d : Int} {m : Mat} (n : Mat) (h : DvM d m) : DvM d (mul n m) := by
  constructor <;> (simp only [mul, image, Mat.tr, dot]; apply dv3 <;> first | exact h.ax | exact h.ay | exact h.az | exact h.bx | exact h.by' | exact h.bz | exact h.cx | exact h.cy | exact h.cz)
theorem gI_dvd_r (a b : Int) : gI a b ∣ b := by
  have h : ((Nat.gcd a.natAbs b.natAbs : Nat) : Int) ∣ ((b.natAbs : Nat) : Int) := Int.ofNat_dvd.mpr (Nat.gcd_dvd_right _ _)
  exact Int.dvd_natAbs.mp h
theorem dvd_gI {d a b : Int} (h1 : d ∣ a) (h2 : d ∣ b) : d ∣ gI a b := by
  have h : d.natAbs ∣ Nat.gcd a.natAbs b.natAbs := Nat.dvd_gcd (Int.natAbs_dvd_natAbs.mpr h1) (Int.natAbs_dvd_natAbs.mpr h2)
  exact Int.natAbs_dvd.mp (Int.ofNat_dvd.mpr h)
theorem cmn_all (g : Int) (r : Row) : cmn g r ∣ r.x ∧ cmn g r ∣ r.y ∧ cmn g r ∣ r.z :=
  ⟨Int.dvd_trans (gI_dvd _ _) (Int.dvd_trans (gI_dvd _ _) (gI_dvd_r _ _)), Int.dvd_trans (gI_dvd _ _) (gI_dvd_r _ _), gI_dvd_r _ _⟩
theorem dvd_cmn {d g : Int} {r : Row} (h : d ∣ g) (hx : d ∣ r.x) (hy : d ∣ r.y) (hz : d ∣ r.z) : d ∣ cmn g r := dvd_gI (dvd_gI (dvd_gI h hx) hy) hz
theorem cmnM_adj (m : Mat) : DvM (cmnM m) (adj m) := by
  have c := cmn_all (cmn (cmn (if det m < 0 then -det m else det m) (adj m).a) (adj m).b) (adj m).c
  have b := cmn_all (cmn (if det m < 0 then -det m else det m) (adj m).a) (adj m).b
  have a := cmn_all (if det m < 0 then -det m else det m) (adj m).a
  have k1 : cmnM m ∣ cmn (cmn (if det m < 0 then -det m else det m) (adj m).a) (adj m).b := cmn_dvd _ _
  have k2 : cmnM m ∣ cmn (if det m < 0 then -det m else det m) (adj m).a := Int.dvd_trans k1 (cmn_dvd _ _)
  exact ⟨Int.dvd_trans k2 a.1, Int.dvd_trans k2 a.2.1, Int.dvd_trans k2 a.2.2, Int.dvd_trans k1 b.1, Int.dvd_trans k1 b.2.1, Int.dvd_trans k1 b.2.2, c.1, c.2.1, c.2.2⟩
theorem dvd_cmnM {d : Int} {m : Mat} (h : d ∣ (if det m < 0 then -det m else det m)) (k : DvM d (adj m)) : d ∣ cmnM m :=
  dvd_cmn (dvd_cmn (dvd_cmn h k.ax k.ay k.az) k.bx k.by' k.bz) k.cx k.cy k.cz
theorem cmnM_cong {A : Mat} (T : Mat) (h : det (cong A T) = det A) : cmnM A ∣ cmnM (cong A T) := by
  refine dvd_cmnM (by rw [h]; exact cmnM_dvd A) ?_
  unfold cong
  rw [adj_mul_rev, adj_mul_rev]
  exact (DvM.mulR _ (cmnM_adj A)).mulL _
theorem lastM_cong {A M : Mat} (h : uni M = true) : lastM (cong A M) = lastM A := by
  have hd : det (cong A M) = det A := by rw [det_cong, sq1 h, Int.mul_one]
  have h1 := cmnM_cong M hd
  have h2 : cmnM (cong A M) ∣ cmnM (cong (cong A M) (inv M)) := cmnM_cong (inv M) (by rw [det_cong, sq1 (uni_inv h), Int.mul_one])
  rw [cong_inv A h] at h2
  have e : cmnM (cong A M) = cmnM A := Int.dvd_antisymm (cmnM_nn _) (cmnM_nn _) h2 h1
  unfold lastM
  rw [e, hd]
theorem swap_det (m : Mat) : det ⟨m.b, m.a, m.c⟩ = -det m := by
  simp only [det, dot, cross]; grind
theorem turn_det (m : Mat) : det ⟨m.c, m.a, m.b⟩ = det m := by
  simp only [det, dot, cross]; grind
theorem uni_swap {m : Mat} (h : uni m = true) : uni ⟨m.b, m.a, m.c⟩ = true := by
  refine uni_of ?_
  rw [swap_det]
  rcases uni_det h with e | e <;> omega
theorem uni_turn {m : Mat} (h : uni m = true) : uni ⟨m.c, m.a, m.b⟩ = true := by
  refine uni_of ?_
  rw [turn_det]
  exact uni_det h
theorem eqv_two (a b c d : Int) : PyData.eqv (T.py (.tup [.int a, .int b])) (T.py (.tup [.int c, .int d])) = (decide (a = c) && decide (b = d)) := by
  show PyData.eqv (.tuple [.int a, .int b]) (.tuple [.int c, .int d]) = _
  rw [PyData.eqv]
  simp only [PyData.eqvAll, eqv_int]
  simp
end Kx

namespace Kx
open PySem PyProof.Rows L2 Cz
/-! ## for k01: the least d; a row above 0 -/
theorem dvd_mul_gI {N d a b : Int} (h1 : N ∣ d * a) (h2 : N ∣ d * b) : N ∣ d * gI a b := by
  have e : gI (d * a) (d * b) = ((d.natAbs : Nat) : Int) * gI a b := by
    unfold gI
    rw [Int.natAbs_mul, Int.natAbs_mul, Nat.gcd_mul_left]
    exact Int.natCast_mul _ _
  have h := dvd_gI h1 h2
  rw [e] at h
  rcases Int.natAbs_eq d with q | q
  · rw [← q] at h
    exact h
  · have q' : ((d.natAbs : Nat) : Int) = -d := by omega
    rw [q', Int.neg_mul] at h
    exact (Int.dvd_neg).mp h
theorem dvd_mul_cmn {N d g : Int} {r : Row} (h : N ∣ d * g) (hx : N ∣ d * r.x) (hy : N ∣ d * r.y) (hz : N ∣ d * r.z) : N ∣ d * cmn g r := dvd_mul_gI (dvd_mul_gI (dvd_mul_gI h hx) hy) hz
structure DvD (N d : Int) (m : Mat) : Prop where
  ax : N ∣ d * m.a.x
  ay : N ∣ d * m.a.y
  az : N ∣ d * m.a.z
  bx : N ∣ d * m.b.x
  by' : N ∣ d * m.b.y
  bz : N ∣ d * m.b.z
  cx : N ∣ d * m.c.x
  cy : N ∣ d * m.c.y
  cz : N ∣ d * m.c.z
theorem lastM_mul {m : Mat} (h : det m < 0) : lastM m * cmnM m = -det m := by
  have d := cmnM_dvd m
  have e := Int.ediv_mul_cancel d
  rw [if_pos h] at e
  unfold lastM
  rw [if_pos h]
  exact e
theorem lastM_pos {m : Mat} (h : det m < 0) : 0 < lastM m := by
  have e := lastM_mul h
  have p := cmnM_pos (m := m) (by omega)
  by_cases z : 0 < lastM m
  · exact z
  · have : lastM m * cmnM m ≤ 0 := Int.mul_nonpos_of_nonpos_of_nonneg (by omega) (by omega)
    omega
theorem lastM_le {m : Mat} (h : det m < 0) : lastM m ≤ -det m := by
  have e := lastM_mul h
  have p := cmnM_pos (m := m) (by omega)
  have q := lastM_pos h
  have : lastM m * 1 ≤ lastM m * cmnM m := Int.mul_le_mul_of_nonneg_left (by omega) (by omega)
  omega
theorem last_iff {m : Mat} (h : det m < 0) (d : Int) : DvD (det m) d (adj m) ↔ lastM m ∣ d := by
  have e := lastM_mul h
  have p := cmnM_pos (m := m) (by omega)
  constructor
  · intro k
    have h0 : det m ∣ d * (if det m < 0 then -det m else det m) := by
      rw [if_pos h, Int.mul_neg]
      exact (Int.dvd_neg).mpr (Int.dvd_mul_left _ _)
    have h1 : det m ∣ d * cmnM m := dvd_mul_cmn (dvd_mul_cmn (dvd_mul_cmn h0 k.ax k.ay k.az) k.bx k.by' k.bz) k.cx k.cy k.cz
    have h2 : lastM m * cmnM m ∣ d * cmnM m := by
      rw [e]
      exact (Int.neg_dvd).mpr h1
    exact (Int.mul_dvd_mul_iff_right (by omega)).mp h2
  · rintro ⟨k, rfl⟩
    have a := cmnM_adj m
    have f : ∀ x : Int, cmnM m ∣ x → det m ∣ lastM m * k * x := fun x ⟨y, hy⟩ => by
      rw [hy]
      have e2 : lastM m * k * (cmnM m * y) = (lastM m * cmnM m) * (k * y) := by grind
      rw [e2, e, Int.neg_mul]
      exact (Int.dvd_neg).mpr (Int.dvd_mul_right _ _)
    exact ⟨f _ a.ax, f _ a.ay, f _ a.az, f _ a.bx, f _ a.by', f _ a.bz, f _ a.cx, f _ a.cy, f _ a.cz⟩
def aboveM (m : Mat) : Bool := decide (0 < m.a.x ∨ 0 < m.b.y ∨ 0 < m.c.z) || decide (m.a.x * m.b.y - m.a.y * m.a.y ≤ 0)
theorem above_iff {m : Mat} (hs : m = m.tr) (hd : det m < 0) : aboveM m = !belowZ m := by
  cases e : belowZ m with
  | true =>
    have q := Q_below hs hd e
    have q1 := q ⟨1, 0, 0⟩
    have q2 := q ⟨0, 1, 0⟩
    have q3 := q ⟨0, 0, 1⟩
    simp only [Q, image, dot] at q1 q2 q3
    simp only [belowZ, Bool.and_eq_true, decide_eq_true_eq] at e
    simp only [aboveM, Bool.not_true, Bool.or_eq_false_iff, decide_eq_false_iff_not]
    constructor <;> omega
  | false =>
    simp only [belowZ, Bool.and_eq_false_iff, decide_eq_false_iff_not] at e
    simp only [aboveM, Bool.not_false, Bool.or_eq_true, decide_eq_true_eq]
    by_cases ha : 0 < m.a.x
    · exact .inl (.inl ha)
    by_cases hD : m.a.x * m.b.y - m.a.y * m.a.y ≤ 0
    · exact .inr hD
    · rcases e with e | e
      · have h0 : m.a.x = 0 := by omega
        rw [h0, Int.zero_mul] at hD
        have := sqnn m.a.y
        omega
      · omega
end Kx

/-! CzG: gcd of three, max of three, tuples by >, a starred item, lists by !=. -/
namespace Cz
open PySem PySem.Spec PyProof.Rows L2
/-! ### gcd(a, b, c) -/
theorem args_gcd3 (a b c : Value) : argsOk "math.gcd" ⟨[a, b, c], []⟩ := by unfold argsOk; kernel_rfl
theorem run_gcd3 (a : Int) (t : Tok) (b : Int) (u : Tok) (c : Int) (x : Tok) :
    Gives (Builtin.«math.gcd» ⟨[.int a t, .int b u, .int c x], []⟩) (.int (((((Nat.gcd 0 a.natAbs).gcd b.natAbs).gcd c.natAbs : Nat) : Int))) :=
  .of_wp fun M A E s Q h => by obtain ⟨hp, g, d, tk, os⟩ := s; wp_walk; exact ⟨_, rfl, h⟩
section
variable {X : Cx}
def rGcd3 : List V → Hp → VK → Prop := fun vs H Q => ∃ a b c : Int, vs = [.int a, .int b, .int c] ∧ Q (.int ((((a.natAbs.gcd b.natAbs).gcd c.natAbs : Nat) : Int))) H
theorem vals3 {x y z : V} {us : List Value} (r : Vals [x, y, z] us) : ∃ u v w, us = [u, v, w] ∧ RelV x u ∧ RelV y v ∧ RelV z w := by
  cases r with
  | cons a r => cases r with
    | cons b r => cases r with
      | cons c r => cases r with
        | nil => exact ⟨_, _, _, rfl, a, b, c⟩
theorem cr_gcd3 : CallR X (.builtin "math.gcd") rGcd3 := by
  intro pins s σ H vs us Q I r h
  obtain ⟨a, b, c, rfl, q⟩ := h
  obtain ⟨u, v, w, rfl, ⟨t1, rfl⟩, ⟨t2, rfl⟩, ⟨t3, rfl⟩⟩ := vals3 r
  have g := run_gcd3 a t1 b t2 c t3
  rw [Nat.gcd_zero_left] at g
  exact PySem.call_function_meets PySem.W.MGF.kind_gcd PySem.W.MGF.plain_gcd PySem.W.MGF.entry_gcd (args_gcd3 _ _ _) g.meets ⟨.int _, H, I.tok _, ⟨_, rfl⟩, q⟩
/-! ### max(a, b, c) -/
theorem call_max3v (hc : X.calm = true) : CallR X (.builtin "max") (fun xs H Q => ∃ i j k, xs = [.int i, .int j, .int k] ∧ Q (.int (if j > i then (if k > j then k else j) else (if k > i then k else i))) H) := by
  intro pins s σ H xs us Q I r h
  obtain ⟨i, j, k, rfl, q⟩ := h
  obtain ⟨u, v, w, rfl, ⟨t1, rfl⟩, ⟨t2, rfl⟩, ⟨t3, rfl⟩⟩ := vals3 r
  refine max_three_ints (I.ok.hd hc) fun h' tk kk => ⟨_, H, I.kept kk, ?_, q⟩
  by_cases hj : j > i
  · rw [if_pos hj, if_pos hj]
    by_cases hk : k > j
    · rw [if_pos hk, if_pos hk]; exact ⟨_, rfl⟩
    · rw [if_neg hk, if_neg hk]; exact ⟨_, rfl⟩
  · rw [if_neg hj, if_neg hj]
    by_cases hk : k > i
    · rw [if_pos hk, if_pos hk]; exact ⟨_, rfl⟩
    · rw [if_neg hk, if_neg hk]; exact ⟨_, rfl⟩
/-! ### t > u, tuples of ints -/
def rGtT (K : PySem.W.Frag) : R2 := fun x y H Q => ∃ (a b : Addr) (ns ms : List Int), x = .ref a ∧ y = .ref b ∧ SqT K H a (ns.map V.int) ∧ SqT K H b (ms.map V.int) ∧
  Q (.bl (Ob.lexAt (fun j => decide (ns.getD j 0 = ms.getD j 0)) (fun j => decide (ms.getD j 0 < ns.getD j 0)) (decide (ns.length > ms.length)) 0 (min ns.length ms.length))) H
theorem op_gtT (hu : X.A.units < cLine) : OpR X (compareOp .Gt) (rGtT X.K) := by
  intro pins s σ H x y v u Q I rx ry h
  obtain ⟨a, b, ns, ms, rfl, rfl, ha, hb, q⟩ := h
  cases rx
  cases ry
  obtain ⟨its, r1, p1, _⟩ := I.tuple ha
  obtain ⟨its2, r2, p2, _⟩ := I.tuple hb
  have i1 : IntsAre its ns := Vals.ints r1
  have i2 : IntsAre its2 ms := Vals.ints r2
  have e1 : its.toArray.size = ns.length := by rw [List.size_toArray]; exact i1.length
  have e2 : its2.toArray.size = ms.length := by rw [List.size_toArray]; exact i2.length
  have at1 : ∀ j (h1 : j < its.toArray.size), ∃ t, its.toArray[j] = .int (ns.getD j 0) t := fun j h1 => PyProof.Rows.IntsAre.int_at i1 _ _ (by simp at h1; simp [h1])
  have at2 : ∀ j (h1 : j < its2.toArray.size), ∃ t, its2.toArray[j] = .int (ms.getD j 0) t := fun j h1 => PyProof.Rows.IntsAre.int_at i2 _ _ (by simp at h1; simp [h1])
  have R := Ob.RcOp.tuples_gt (A := X.A) (s := s) (e := fun j => decide (ns.getD j 0 = ms.getD j 0)) (r := fun j => decide (ms.getD j 0 < ns.getD j 0)) p1 p2 hu (fun j h1 h2 => by
    obtain ⟨t, et⟩ := at1 j h1
    obtain ⟨t', et'⟩ := at2 j h2
    rw [et, et']
    have z : (ns.getD j 0 == ms.getD j 0) = decide (ns.getD j 0 = ms.getD j 0) := by
      by_cases q : ns.getD j 0 = ms.getD j 0
      · rw [decide_eq_true q]; exact beq_iff_eq.mpr q
      · rw [decide_eq_false q]; exact beq_eq_false_iff_ne.mpr q
    rw [← z]
    exact SeqAt.EqAt.int_int _ _ _ _) (fun j h1 h2 _ => by
    obtain ⟨t, et⟩ := at1 j h1
    obtain ⟨t', et'⟩ := at2 j h2
    rw [et, et']
    exact Ob.RcOp.gt_int _ _ _ _)
  rw [e1, e2] at R
  have z : wpAny (model X.prog X.w) X.A (compareOp .Gt (.ref a) (.ref b)) (EP X pins σ Q) X.xe s := R X.prog X.w X.xe (EP X pins σ Q) ⟨.bl _, H, I, rfl, q⟩
  exact z
theorem opk_gtT (K : PySem.W.Frag) (hu : X.A.units + 64 < cLine) (hK : X.K = K := by rfl) : OpR X (compareOp .Gt) (rGtT K) := by subst hK; exact op_gtT (Nat.lt_of_le_of_lt (Nat.le_add_right _ 64) hu)
theorem opk_leT (K : PySem.W.Frag) (hu : X.A.units + 64 < cLine) (hK : X.K = K := by rfl) : OpR X (compareOp .LtE) (rLeT K) := by subst hK; exact op_leT (Nat.lt_of_le_of_lt (Nat.le_add_right _ 64) hu)
theorem pak_star (K : PySem.W.Frag) {e : Expr} {es : List Expr} {te : TE} {t : TA} {p : Pos} (he : PE X e te) (hr : PA X es t) (hs : starEach (.Starred e p :: es) X.env = (true, eval e X.env) :: starEach es X.env := by rfl) (hK : X.K = K := by rfl) : PA X (.Starred e p :: es) (StX.tStar K te t) := by subst hK; exact StX.pa_star he hr hs
end
section
variable {K : PySem.W.Frag} {Γ : List D} {W : WX} {P : Po} {ta tb tc : TE}
theorem ev_gcd3 {a b c : Int} (ha : Ev K ta Γ (.int a)) (hb : Ev K tb Γ (.int b)) (hc : Ev K tc Γ (.int c)) : Ev K (tCB rGcd3 (tCons ta (tCons tb (tCons tc tNil)))) Γ (.int ((((a.natAbs.gcd b.natAbs).gcd c.natAbs : Nat) : Int))) := fun H0 A σ H Q E q =>
  ha H0 A σ H _ E fun v H1 s1 r1 => hb H0 A σ H1 _ (E.mono s1) fun w H2 s2 r2 => hc H0 A σ H2 _ (E.mono (s1.trans s2)) fun u H3 s3 r3 => by
    cases r1
    cases r2
    cases r3
    exact ⟨a, b, c, rfl, q _ H3 (s1.trans (s2.trans s3)) (.int _)⟩
def mxv3 (i j k : Int) : Int := if j > i then (if k > j then k else j) else (if k > i then k else i)
theorem ev_max3v {i j k : Int} (ha : Ev K ta Γ (.int i)) (hb : Ev K tb Γ (.int j)) (hc : Ev K tc Γ (.int k)) :
    Ev K (tCB (fun xs H Q => ∃ i j k, xs = [.int i, .int j, .int k] ∧ Q (.int (if j > i then (if k > j then k else j) else (if k > i then k else i))) H) (tCons ta (tCons tb (tCons tc tNil)))) Γ (.int (mxv3 i j k)) := fun H0 A σ H Q E q =>
  ha H0 A σ H _ E fun v H1 s1 r1 => hb H0 A σ H1 _ (E.mono s1) fun w H2 s2 r2 => hc H0 A σ H2 _ (E.mono (s1.trans s2)) fun u H3 s3 r3 => by
    cases r1
    cases r2
    cases r3
    exact ⟨i, j, k, rfl, q _ H3 (s1.trans (s2.trans s3)) (.int _)⟩
/-- rows by > -/
def gtR (r s : Row) : Bool := if r.x = s.x then (if r.y = s.y then decide (s.z < r.z) else decide (s.y < r.y)) else decide (s.x < r.x)
theorem ev_gtR {r s : Row} (ha : Ev K ta Γ (row r)) (hb : Ev K tb Γ (row s)) : Ev K (tOp (rGtT K) ta tb) Γ (.bl (gtR r s)) :=
  ev_op ha hb fun v w H Q r1 r2 q => by
    cases r1 with
    | tup s1 q1 => cases r2 with
      | tup s2 q2 =>
        have e1 := Rps.ints_of (ns := [r.x, r.y, r.z]) q1
        have e2 := Rps.ints_of (ns := [s.x, s.y, s.z]) q2
        subst e1 e2
        refine ⟨_, _, [r.x, r.y, r.z], [s.x, s.y, s.z], rfl, rfl, s1, s2, ?_⟩
        have e : Ob.lexAt (fun j => decide (([r.x, r.y, r.z] : List Int).getD j 0 = ([s.x, s.y, s.z] : List Int).getD j 0)) (fun j => decide (([s.x, s.y, s.z] : List Int).getD j 0 < ([r.x, r.y, r.z] : List Int).getD j 0)) (decide (([r.x, r.y, r.z] : List Int).length > ([s.x, s.y, s.z] : List Int).length)) 0 (min ([r.x, r.y, r.z] : List Int).length ([s.x, s.y, s.z] : List Int).length) = gtR r s := by
          have z : (!decide (r.z = s.z) && decide (s.z < r.z)) = decide (s.z < r.z) := by rw [Bool.eq_iff_iff]; simp; omega
          simp [Ob.lexAt, gtR, z]
        rw [e]
        exact q _ H (Same.refl H) (.bl _)
def leR (r s : Row) : Bool := if r.x = s.x then (if r.y = s.y then decide (r.z ≤ s.z) else decide (r.y ≤ s.y)) else decide (r.x ≤ s.x)
theorem ev_leR {r s : Row} (ha : Ev K ta Γ (row r)) (hb : Ev K tb Γ (row s)) : Ev K (tOp (rLeT K) ta tb) Γ (.bl (leR r s)) :=
  ev_op ha hb fun v w H Q r1 r2 q => by
    cases r1 with
    | tup s1 q1 => cases r2 with
      | tup s2 q2 =>
        have e1 := Rps.ints_of (ns := [r.x, r.y, r.z]) q1
        have e2 := Rps.ints_of (ns := [s.x, s.y, s.z]) q2
        subst e1 e2
        refine ⟨_, _, [r.x, r.y, r.z], [s.x, s.y, s.z], rfl, rfl, s1, s2, ?_⟩
        have e : Ob.lexAt (fun j => decide (([r.x, r.y, r.z] : List Int).getD j 0 = ([s.x, s.y, s.z] : List Int).getD j 0)) (fun j => decide (([r.x, r.y, r.z] : List Int).getD j 0 ≤ ([s.x, s.y, s.z] : List Int).getD j 0)) (decide (([r.x, r.y, r.z] : List Int).length ≤ ([s.x, s.y, s.z] : List Int).length)) 0 (min ([r.x, r.y, r.z] : List Int).length ([s.x, s.y, s.z] : List Int).length) = leR r s := by
          have z : (decide (r.z = s.z) || decide (r.z ≤ s.z)) = decide (r.z ≤ s.z) := by rw [Bool.eq_iff_iff]; simp; omega
          simp [Ob.lexAt, leR, z]
        rw [e]
        exact q _ H (Same.refl H) (.bl _)
/-- a starred item: a tuple of data -/
theorem args_of_rps {H : Hp} : ∀ {vs : List V} {ts : List T}, Rps K H vs ts → Args K H vs (ts.map D.t)
  | _, _, .nil => .nil
  | _, _, .cons h r => .cons h (args_of_rps r)
theorem eva_star {tr : TA} {xs : List T} {ds : List D} (ha : Ev K ta Γ (.tup xs)) (hr : EvA K tr Γ ds) : EvA K (StX.tStar K ta tr) Γ (xs.map D.t ++ ds) := fun H0 A σ H Q E q =>
  ha H0 A σ H _ E fun v H1 s1 r1 => by
    cases r1 with
    | tup sq r =>
      exact ⟨_, _, rfl, .inl sq, hr H0 A σ H1 _ (E.mono s1) fun ys H2 s2 r2 => q _ H2 (s1.trans s2) ((args_of_rps (r.mono (Imm.of_same s2))).append r2)⟩
theorem evt_star {tr : TA} {xs ys : List T} (ha : Ev K ta Γ (.tup xs)) (hr : EvTs K tr Γ ys) : EvTs K (StX.tStar K ta tr) Γ (xs ++ ys) := by
  unfold EvTs at *
  rw [List.map_append]
  exact eva_star ha hr
/-- lists of plain data by != -/
theorem ev_neL {xs ys : List T} (px : PlL xs) (py : PlL ys) (ha : EvL K ta Γ xs) (hb : EvL K tb Γ ys) : Ev K (tOp (rNeD K) ta tb) Γ (.bl (!PyData.eqv (.list (T.pys xs)) (.list (T.pys ys)))) := fun H0 A σ H Q E q =>
  ha H0 A σ H _ E fun a vs H1 s1 q1 r1 => hb H0 A σ H1 _ (E.mono s1) fun b ws H2 s2 q2 r2 =>
    ⟨_, _, .lst (s2.seq q1) (Rps.dps (r1.mono (Imm.of_same s2)) px.pl), .lst q2 (Rps.dps r2 py.pl), px.sh, py.sh, q _ H2 (s1.trans s2) (.bl _)⟩
end
end Cz

namespace Kx
open PySem PyProof.Rows L2 Cz
/-! ## the laws' gcd loop gives the gcd -/
theorem natAbs_emod {a b : Int} (h : 0 ≤ a) (k : 0 ≤ b) : (a % b).natAbs = a.natAbs % b.natAbs := by
  obtain ⟨m, rfl⟩ := Int.eq_ofNat_of_zero_le h
  obtain ⟨n, rfl⟩ := Int.eq_ofNat_of_zero_le k
  rw [← Int.natCast_emod]
  rfl
structure Gq (g : Nat) (p : Int × Int) : Prop where
  h1 : 0 ≤ p.1
  h2 : 0 ≤ p.2
  g : p.1.natAbs.gcd p.2.natAbs = g
theorem gcdStep_gq {g : Nat} {p : Int × Int} (k : Nat) (h : Gq g p) : Gq g (gcdStep k p) := by
  obtain ⟨h1, h2, hg⟩ := h
  unfold gcdStep
  split
  · rename_i z
    refine ⟨h2, Int.emod_nonneg _ z, ?_⟩
    show p.2.natAbs.gcd (p.1 % p.2).natAbs = g
    rw [natAbs_emod h1 h2, ← hg, Nat.gcd_comm p.2.natAbs, ← Nat.gcd_rec, Nat.gcd_comm]
  · exact ⟨h1, h2, hg⟩
theorem itr_gq {g : Nat} {p : Int × Int} (h : Gq g p) : ∀ k, Gq g (itr gcdStep k p)
  | 0 => h
  | k + 1 => gcdStep_gq k (itr_gq h k)
theorem gcd_half {p : Int × Int} (h : 0 ≤ p.2) (k j : Nat) : 2 * (gcdStep k (gcdStep j p)).2 ≤ p.2 := by
  by_cases z : p.2 = 0
  · have e : gcdStep j p = p := if_neg (by simpa using z)
    rw [e]
    have e2 : gcdStep k p = p := if_neg (by simpa using z)
    rw [e2]; omega
  · have e : gcdStep j p = (p.2, p.1 % p.2) := if_pos z
    rw [e]
    have r0 := Int.emod_nonneg p.1 z
    have r1 := Int.emod_lt_of_pos p.1 (by omega : 0 < p.2)
    generalize p.1 % p.2 = r at *
    by_cases z2 : r = 0
    · have e2 : gcdStep k (p.2, r) = (p.2, r) := if_neg (by simpa using z2)
      rw [e2]
      show 2 * r ≤ _
      omega
    · have e2 : gcdStep k (p.2, r) = (r, p.2 % r) := if_pos z2
      rw [e2]
      show 2 * (p.2 % r) ≤ p.2
      have r2 := Int.emod_lt_of_pos p.2 (by omega : 0 < r)
      have r3 := Int.emod_nonneg p.2 z2
      have r4 := Int.emod_add_mul_ediv p.2 r
      have r5 : 1 ≤ p.2 / r := by
        by_cases q : 0 < p.2 / r
        · omega
        · have : r * (p.2 / r) ≤ 0 := Int.mul_nonpos_of_nonneg_of_nonpos (by omega) (by omega)
          omega
      have r6 : r * 1 ≤ r * (p.2 / r) := Int.mul_le_mul_of_nonneg_left r5 (by omega)
      omega
theorem itr_halves {p : Int × Int} (h : 0 ≤ p.2) : ∀ n, (2 : Int) ^ n * (itr gcdStep (2 * n) p).2 ≤ p.2
  | 0 => by show (2 : Int) ^ 0 * p.2 ≤ p.2; simp
  | n + 1 => by
    have ih := itr_halves h n
    have e : itr gcdStep (2 * (n + 1)) p = gcdStep (2 * n + 1) (gcdStep (2 * n) (itr gcdStep (2 * n) p)) := rfl
    rw [e]
    have hh := gcd_half (itr_nn h (2 * n)) (2 * n + 1) (2 * n)
    generalize itr gcdStep (2 * n) p = s at *
    have h1 : (2 : Int) ^ n * (2 * (gcdStep (2 * n + 1) (gcdStep (2 * n) s)).2) ≤ (2 : Int) ^ n * s.2 := Int.mul_le_mul_of_nonneg_left hh (Int.pow_nonneg (by decide))
    have e2 : (2 : Int) ^ (n + 1) * (gcdStep (2 * n + 1) (gcdStep (2 * n) s)).2 = (2 : Int) ^ n * (2 * (gcdStep (2 * n + 1) (gcdStep (2 * n) s)).2) := by rw [Int.pow_succ, Int.mul_assoc]
    omega
theorem com1_eq {f x : Int} (h0 : 0 ≤ f) (hx : Sm 200 x) : com1 f x = ((f.natAbs.gcd x.natAbs : Nat) : Int) := by
  have hn := absM_nn x
  have ha : (absM x).natAbs = x.natAbs := by unfold absM; split <;> omega
  have G := itr_gq (g := f.natAbs.gcd x.natAbs) (p := (f, absM x)) ⟨h0, hn, by show f.natAbs.gcd (absM x).natAbs = _; rw [ha]⟩ 400
  have hh := itr_halves (p := (f, absM x)) hn 200
  have hz : (itr gcdStep 400 (f, absM x)).2 = 0 := by
    have h2 := G.h2
    have e : (itr gcdStep (2 * 200) (f, absM x)) = itr gcdStep 400 (f, absM x) := rfl
    rw [e] at hh
    generalize (itr gcdStep 400 (f, absM x)).2 = y at *
    have hb : absM x < 2 ^ 200 := by
      unfold Sm at hx
      have : ((x.natAbs : Nat) : Int) < ((2 ^ 200 : Nat) : Int) := Int.ofNat_lt.mpr hx
      have e : absM x = ((x.natAbs : Nat) : Int) := by unfold absM; split <;> omega
      rw [e]
      exact this
    have hh' : (2 : Int) ^ 200 * y ≤ absM x := hh
    by_cases q : y = 0
    · exact q
    · have : (2 : Int) ^ 200 * 1 ≤ (2 : Int) ^ 200 * y := Int.mul_le_mul_of_nonneg_left (by omega) (by decide)
      omega
  have hg := G.g
  rw [hz] at hg
  have e3 : (itr gcdStep 400 (f, absM x)).1.natAbs = f.natAbs.gcd x.natAbs := by
    rw [← hg]
    show _ = Nat.gcd _ 0
    rw [Nat.gcd_zero_right]
  unfold com1
  rw [← e3]
  have := G.h1
  omega
def bareN (v : Row) : Nat := (v.x.natAbs.gcd v.y.natAbs).gcd v.z.natAbs
theorem comM_eq {v : Row} (h : v.sm 200) : comM v = (bareN v : Int) := by
  show com1 (com1 (com1 0 v.x) v.y) v.z = _
  rw [com1_eq (by omega) h.x, com1_eq (Int.natCast_nonneg _) h.y, com1_eq (Int.natCast_nonneg _) h.z]
  unfold bareN
  simp
/-- a root as the program asks it -/
def rootP (A : Mat) (v : Row) : Bool := decide ((bareN v : Int) = 1) && (decide (0 < Q A v) && (rootB A v).all id)
theorem rootP_eq {A : Mat} {v : Row} (h : v.sm 200) : rootM A v = rootP A v := by
  unfold rootM rootP
  rw [comM_eq h]
  by_cases h1 : Q A v ≤ 0
  · rw [if_pos (.inl h1), decide_eq_false (by omega : ¬ 0 < Q A v)]
    simp
  · by_cases h2 : (bareN v : Int) = 1
    · rw [if_neg (by omega), decide_eq_true h2, decide_eq_true (by omega : 0 < Q A v)]
      simp
    · rw [if_pos (.inr h2), decide_eq_false h2]
      simp
structure RootS (A : Mat) (v : Row) : Prop where
  bare : bareN v = 1
  pos : 0 < Q A v
  dx : Q A v ∣ 2 * (image A v).x
  dy : Q A v ∣ 2 * (image A v).y
  dz : Q A v ∣ 2 * (image A v).z
theorem rootP_iff {A : Mat} {v : Row} : rootP A v = true ↔ RootS A v := by
  unfold rootP rootB
  simp only [Bool.and_eq_true, decide_eq_true_eq, List.all_cons, List.all_nil, id, Bool.and_true]
  constructor
  · rintro ⟨h1, h2, h3, h4, h5⟩
    exact ⟨by omega, h2, Int.dvd_of_emod_eq_zero h3, Int.dvd_of_emod_eq_zero h4, Int.dvd_of_emod_eq_zero h5⟩
  · rintro ⟨h1, h2, h3, h4, h5⟩
    exact ⟨by omega, h2, Int.emod_eq_zero_of_dvd h3, Int.emod_eq_zero_of_dvd h4, Int.emod_eq_zero_of_dvd h5⟩
/-! ## what kind of data is a row -/
def wholeB : T → Bool
  | .int _ => true
  | _ => false
def rowB : T → Bool
  | .tup xs => decide ((xs.length : Int) = 3) && xs.all wholeB
  | _ => false
def rtT (A : Mat) : T → Bool
  | .tup [.int a, .int b, .int c] => rootP A ⟨a, b, c⟩
  | _ => false
theorem rowB_row {x : T} (h : rowB x = true) : ∃ v : Row, x = row v := by
  cases x with
  | tup xs =>
    simp only [rowB, Bool.and_eq_true, decide_eq_true_eq] at h
    obtain ⟨h1, h2⟩ := h
    match xs, h1, h2 with
    | [a, b, c], _, h2 =>
      simp only [List.all_cons, List.all_nil, Bool.and_eq_true, Bool.and_true] at h2
      obtain ⟨ha, hb, hc⟩ := h2
      cases a <;> try cases ha
      cases b <;> try cases hb
      cases c <;> try cases hc
      exact ⟨⟨_, _, _⟩, rfl⟩
    | [], h1, _ => simp at h1
    | [_], h1, _ => simp at h1
    | [_, _], h1, _ => simp at h1
    | _ :: _ :: _ :: _ :: xs, h1, _ => simp at h1; omega
  | non => cases h
  | bl b => cases h
  | int i => cases h
  | str x => cases h
  | obj _ _ _ => cases h
theorem rtT_not {A : Mat} {x : T} (h : rowB x = false) : rtT A x = false := by
  unfold rtT
  split
  · simp [rowB, wholeB] at h
  · rfl
/-- plain data of a known kind; a row is not too great -/
structure OkX (x : T) : Prop where
  ty : tyT x ≠ none
  sm : ∀ v, x = row v → v.sm 1000
theorem okx_row {v : Row} (h : v.sm 1000) : OkX (row v) := ⟨(fun z => nomatch z), fun w e => by
  obtain ⟨a, b, c⟩ := v
  obtain ⟨d, e', f⟩ := w
  simp only [T.tup.injEq, List.cons.injEq, T.int.injEq, and_true] at e
  obtain ⟨rfl, rfl, rfl⟩ := e
  exact h⟩
/-! ## ranges -/
def rngI (lo : Int) (n : Nat) : List Int := (List.range n).map fun i : Nat => lo + (i : Int)
theorem rngI_len (lo : Int) (n : Nat) : (rngI lo n).length = n := by unfold rngI; rw [List.length_map, List.length_range]
theorem rngI_at {lo : Int} {n i : Nat} (h : i < n) : (rngI lo n)[i]? = some (lo + (i : Int)) := by unfold rngI; rw [List.getElem?_map, List.getElem?_range h]; rfl
theorem rngI_mem {lo : Int} {n : Nat} {x : Int} : x ∈ rngI lo n ↔ lo ≤ x ∧ x < lo + n := by
  unfold rngI
  rw [List.mem_map]
  constructor
  · rintro ⟨i, hi, rfl⟩
    have := List.mem_range.mp hi
    omega
  · rintro ⟨h1, h2⟩
    exact ⟨(x - lo).toNat, List.mem_range.mpr (by omega), by omega⟩
theorem rngI_take {lo : Int} {n i : Nat} (h : i < n) : (rngI lo n).take (i + 1) = (rngI lo n).take i ++ [lo + (i : Int)] := take_snoc (rngI_at h)
theorem rngI_all {lo : Int} {n : Nat} : (rngI lo n).take n = rngI lo n := List.take_of_length_le (Nat.le_of_eq (rngI_len lo n))
/-! ## boxes -/
def boxZ (x y : Int) (c : Int) : List Row := (rngI (-c) (c + 1 - -c).toNat).map fun z => ⟨x, y, z⟩
def boxY (x : Int) (b c : Int) : List Row := (rngI (-b) (b + 1 - -b).toNat).flatMap fun y => boxZ x y c
def boxM (a b c : Int) : List Row := (rngI (-a) (a + 1 - -a).toNat).flatMap fun x => boxY x b c
theorem boxZ_len (x y c : Int) : (boxZ x y c).length = (c + 1 - -c).toNat := by unfold boxZ; rw [List.length_map, rngI_len]
theorem flatMap_len {α β : Type} {f : α → List β} {m : Nat} (h : ∀ x, (f x).length = m) : ∀ l : List α, (l.flatMap f).length = l.length * m
  | [] => by simp
  | x :: l => by
    rw [List.flatMap_cons, List.length_append, h, flatMap_len h l, List.length_cons, Nat.succ_mul]
    omega
theorem boxY_len (x b c : Int) : (boxY x b c).length = (b + 1 - -b).toNat * (c + 1 - -c).toNat := by
  unfold boxY
  rw [flatMap_len (fun y => boxZ_len x y c), rngI_len]
theorem boxM_len (a b c : Int) : (boxM a b c).length = (a + 1 - -a).toNat * ((b + 1 - -b).toNat * (c + 1 - -c).toNat) := by
  unfold boxM
  rw [flatMap_len (fun x => boxY_len x b c), rngI_len]
theorem mem_box {a b c : Int} {v : Row} : v ∈ boxM a b c ↔ (-a ≤ v.x ∧ v.x ≤ a) ∧ (-b ≤ v.y ∧ v.y ≤ b) ∧ (-c ≤ v.z ∧ v.z ≤ c) := by
  unfold boxM boxY boxZ
  simp only [List.mem_flatMap, List.mem_map, rngI_mem]
  constructor
  · rintro ⟨x, hx, y, hy, z, hz, rfl⟩
    simp only
    omega
  · rintro ⟨h1, h2, h3⟩
    exact ⟨v.x, by omega, v.y, by omega, v.z, by omega, rfl⟩
theorem box_sm {a b c : Int} {v : Row} (h : v ∈ boxM a b c) (n : Nat) (ha : Sm n a) (hb : Sm n b) (hc : Sm n c) : v.sm n := by
  obtain ⟨h1, h2, h3⟩ := mem_box.mp h
  unfold Sm at *
  refine ⟨?_, ?_, ?_⟩ <;> (unfold Sm; omega)
theorem rootP_zero (A : Mat) : rootP A ⟨0, 0, 0⟩ = false := by simp [rootP, bareN]
/-! ## the first row inside -/
def insB (A : Mat) (size : Int) (v : Row) : Bool := decide (mxv3 v.x (absM v.y) (absM v.z) = size) && (gtR v ⟨0, 0, 0⟩ && decide (dot v (image A v) < 0))
def insZ (A : Mat) (size x y z : Int) : Option Row := if insB A size ⟨x, y, z⟩ = true then some ⟨x, y, z⟩ else none
def insS (A : Mat) (size : Int) : Option Row := (rngI 0 (size + 1).toNat).findSome? fun x => (rngI (-size) (size + 1 - -size).toNat).findSome? fun y => (rngI (-size) (size + 1 - -size).toNat).findSome? fun z => insZ A size x y z
def insideM (A : Mat) (most : Int) : Option Row := (rngI 1 (most + 1 - 1).toNat).findSome? (insS A)
theorem insS_of {A : Mat} {s : Int} {v : Row} (h : insS A s = some v) : insB A s v = true ∧ (0 ≤ v.x ∧ v.x ≤ s) ∧ (-s ≤ v.y ∧ v.y ≤ s) ∧ (-s ≤ v.z ∧ v.z ≤ s) := by
  unfold insS at h
  obtain ⟨x, hx, h⟩ := List.exists_of_findSome?_eq_some h
  obtain ⟨y, hy, h⟩ := List.exists_of_findSome?_eq_some h
  obtain ⟨z, hz, h⟩ := List.exists_of_findSome?_eq_some h
  unfold insZ at h
  split at h
  · rename_i q
    cases h
    rw [rngI_mem] at hx hy hz
    refine ⟨q, ?_, ?_, ?_⟩ <;> (simp only; omega)
  · cases h
theorem inside_of {A : Mat} {most : Int} {v : Row} (h : insideM A most = some v) : Q A v < 0 ∧ (0 ≤ v.x ∧ v.x ≤ most) ∧ (-most ≤ v.y ∧ v.y ≤ most) ∧ (-most ≤ v.z ∧ v.z ≤ most) := by
  unfold insideM at h
  obtain ⟨s, hs, h⟩ := List.exists_of_findSome?_eq_some h
  rw [rngI_mem] at hs
  obtain ⟨h1, h2, h3, h4⟩ := insS_of h
  simp only [insB, Bool.and_eq_true, decide_eq_true_eq] at h1
  exact ⟨h1.2.2, by omega, by omega, by omega⟩
end Kx
namespace Cz
open PySem PyProof.Rows L2 Kx
section
variable {K : PySem.W.Frag} {Γ : List D} {W : WX} {P : Po} {g : TG} {tb : TS}
theorem findSome_take {α : Type} {f : Int → Option α} {lo : Int} {n i : Nat} (h : i < n) (h0 : ((rngI lo n).take i).findSome? f = none) (hf : f (lo + i) = none) : ((rngI lo n).take (i + 1)).findSome? f = none := by
  rw [rngI_take h, List.findSome?_append, h0]
  simp [hf]
theorem findSome_at {α : Type} {f : Int → Option α} {lo : Int} {n i : Nat} {b : α} (h : i < n) (h0 : ((rngI lo n).take i).findSome? f = none) (hf : f (lo + i) = some b) : (rngI lo n).findSome? f = some b := by
  have e : rngI lo n = (rngI lo n).take (i + 1) ++ (rngI lo n).drop (i + 1) := (List.take_append_drop _ _).symm
  rw [e, List.findSome?_append, rngI_take h, List.findSome?_append, h0]
  simp [hf]
/-- for x in range(a, n): .. return where f x is some -/
theorem sv_find2 {α : Type} {ta tc : TE} {a n : Int} (f : Int → Option α) (ret : α → D) (I : List D → Prop) (ha : Ev K ta Γ (.int a)) (h : Ev K tc Γ (.int n)) (z : -4611686018427387904 ≤ a ∧ a < 4611686018427387904 ∧ -4611686018427387904 ≤ n ∧ n < 4611686018427387904) (h0 : I Γ)
    (hs : ∀ x G, a ≤ x → x < n → I G → ∃ G', Gd K g G (.int x) G' ∧ Sv K W tb G' { nx := fun G => f x = none ∧ I G, ct := fun G => f x = none ∧ I G, rt := fun d => ∃ b, f x = some b ∧ d = ret b })
    (hn : ∀ G, (rngI a (n - a).toNat).findSome? f = none → I G → P.nx G) (hr : ∀ b, (rngI a (n - a).toNat).findSome? f = some b → P.rt (ret b)) :
    Sv K W (tFor (iRng2 (tCons ta (tCons tc tNil))) g tb) Γ P := by
  refine sv_range2 (fun i G => ((rngI a (n - a).toNat).take i).findSome? f = none ∧ I G) ha h z ⟨rfl, h0⟩ (fun i G hi hG => ?_) (fun G hG => ?_)
  · obtain ⟨G', hg, hb⟩ := hs (a + i) G (by omega) (by omega) hG.2
    refine ⟨G', hg, sv_mono hb (fun G q => ⟨findSome_take hi hG.1 q.1, q.2⟩) (fun d ⟨b, q, e⟩ => by rw [e]; exact hr b (findSome_at hi hG.1 q)) (fun _ q => q.elim) (fun G q => ⟨findSome_take hi hG.1 q.1, q.2⟩) (fun _ _ q => q.elim)⟩
  · rw [rngI_all] at hG
    exact hn G hG.1 hG.2
theorem sv_find1 {α : Type} {tc : TE} {n : Int} (f : Int → Option α) (ret : α → D) (I : List D → Prop) (h : Ev K tc Γ (.int n)) (z : -4611686018427387904 ≤ n ∧ n < 4611686018427387904) (h0 : I Γ)
    (hs : ∀ x G, 0 ≤ x → x < n → I G → ∃ G', Gd K g G (.int x) G' ∧ Sv K W tb G' { nx := fun G => f x = none ∧ I G, ct := fun G => f x = none ∧ I G, rt := fun d => ∃ b, f x = some b ∧ d = ret b })
    (hn : ∀ G, (rngI 0 n.toNat).findSome? f = none → I G → P.nx G) (hr : ∀ b, (rngI 0 n.toNat).findSome? f = some b → P.rt (ret b)) :
    Sv K W (tFor (iRng1 (tCons tc tNil)) g tb) Γ P := by
  refine sv_range1 (fun i G => ((rngI 0 n.toNat).take i).findSome? f = none ∧ I G) h z ⟨rfl, h0⟩ (fun i G hi hG => ?_) (fun G hG => ?_)
  · obtain ⟨G', hg, hb⟩ := hs i G (by omega) (by omega) hG.2
    refine ⟨G', hg, sv_mono hb (fun G q => ⟨findSome_take hi hG.1 (by rw [Int.zero_add]; exact q.1), q.2⟩) (fun d ⟨b, q, e⟩ => by rw [e]; exact hr b (findSome_at hi hG.1 (by rw [Int.zero_add]; exact q))) (fun _ q => q.elim) (fun G q => ⟨findSome_take hi hG.1 (by rw [Int.zero_add]; exact q.1), q.2⟩) (fun _ _ q => q.elim)⟩
  · rw [rngI_all] at hG
    exact hn G hG.1 hG.2
/-- [v for v in rows if p v] -/
theorem keptN_rows {c : Nat → Bool} {f : Nat → T} {rs : List Row} {p : Row → Bool} (h : ∀ i r, rs[i]? = some r → c i = p r ∧ f i = row r) : keptN c f (rs.map row).length = (rs.filter p).map row := by
  have e : ∀ n, n ≤ rs.length → keptN c f n = ((rs.take n).filter p).map row := fun n => by
    induction n with
    | zero => intro _; rfl
    | succ n ih =>
      intro hn
      have hx : rs[n]? = some rs[n] := List.getElem?_eq_getElem hn
      obtain ⟨e1, e2⟩ := h n _ hx
      rw [keptN_succ, ih (by omega), take_snoc hx, List.filter_append, List.map_append, e1, e2]
      by_cases e : p rs[n] = true
      · rw [if_pos e]; simp [e]
      · rw [if_neg e]; simp [e]
  rw [List.length_map, e _ (Nat.le_refl _), List.take_length]
theorem evf_rows {tl te : TE} {tt : TT} {i : Nat} {rs : List Row} (p : Row → Bool) (hl : EvL K tl Γ (rs.map row)) (z : rs.length < 1000000)
    (h : ∀ r, r ∈ rs → EvB K tt ((wipeD Γ [i]).set i (.t (row r))) (p r) ∧ Ev K te ((wipeD Γ [i]).set i (.t (row r))) (row r)) : EvF K (tLc (iList K tl) (gName i) tt te [i]) Γ ((rs.filter p).map row) :=
  evf_eq (evf_compL (fun j => p (rs.getD j ⟨0, 0, 0⟩)) (fun j => row (rs.getD j ⟨0, 0, 0⟩)) hl (by rw [List.length_map]; exact z) fun j x hx => by
    rw [List.getElem?_map] at hx
    obtain ⟨r, hr, rfl⟩ := Option.map_eq_some_iff.mp hx
    have e : rs.getD j ⟨0, 0, 0⟩ = r := by simp [List.getD, hr]
    rw [e]
    obtain ⟨h1, h2⟩ := h r (List.mem_of_getElem? hr)
    exact ct1 h1 fun _ => h2) (keptN_rows fun j r hr => by
    have e : rs.getD j ⟨0, 0, 0⟩ = r := by simp [List.getD, hr]
    rw [e]
    exact ⟨rfl, rfl⟩)
end
end Cz

local macro_rules | `(tactic| walk_at "sm") => `(tactic| first
  | assumption
  | (apply Cz.Row.sm.x; walk_at "sm") | (apply Cz.Row.sm.y; walk_at "sm") | (apply Cz.Row.sm.z; walk_at "sm")
  | (apply Cz.Mat.sm.a; walk_at "sm") | (apply Cz.Mat.sm.b; walk_at "sm") | (apply Cz.Mat.sm.c; walk_at "sm")
  | (apply Kx.smdiv; walk_at "sm") | (apply Cz.sm_dot <;> walk_at "sm") | (apply Cz.sm_cross <;> walk_at "sm") | (apply Cz.sm_image <;> walk_at "sm") | (apply Cz.sm_tr; walk_at "sm") | (apply Cz.sm_mul <;> walk_at "sm") | (apply Cz.sm_det; walk_at "sm") | (apply Cz.sm_adj; walk_at "sm")
  | (apply Cz.Sm.mul <;> walk_at "sm") | (apply Cz.Sm.add' <;> walk_at "sm") | (apply Cz.Sm.sub' <;> walk_at "sm") | (apply Cz.Sm.neg; walk_at "sm")
  | (apply Cz.Sm.emod (n := 24) <;> decide) | exact Cz.Sm.bit | (apply Cz.Sm.abs; walk_at "sm")
  | exact Cz.Sm.of 128 (by decide))
local macro_rules | `(tactic| walk_at "smk") => `(tactic| (apply Cz.Sm.mulok; (walk_at "sm"); (walk_at "sm"); (first | decide | omega)))

namespace Kx
open PySem PyProof.Rows L2 Cz
def topS (i : Nat) : Stmt := PySem.Challenge.pw_coneroom_k03_moved_forms.main.body.getD i (.Pass ⟨0, 0, 0, 0⟩)
abbrev s_dot : Stmt := topS 10
abbrev s_cross : Stmt := topS 11
abbrev s_transposed : Stmt := topS 12
abbrev s_image : Stmt := topS 13
abbrev s_determinant_of : Stmt := topS 15
abbrev s_adjugate_of : Stmt := topS 16
abbrev s_matrix_product : Stmt := topS 14
abbrev s_has_inverse : Stmt := topS 17
abbrev s_inverse_of : Stmt := topS 18
abbrev s_is_whole : Stmt := topS 7
abbrev s_is_within : Stmt := topS 8
abbrev s_products_of_images : Stmt := topS 26
abbrev s_is_item : Stmt := topS 22
abbrev s_is_below_zero : Stmt := topS 23
abbrev s_check_form : Stmt := topS 24
abbrev s_last_of : Stmt := topS 25
abbrev s_Form__init_ : Stmt := inClass (topS 27) 0
abbrev s_Form_product : Stmt := inClass (topS 27) 1
abbrev s_Form_moved : Stmt := inClass (topS 27) 4
abbrev s_law_draws : Stmt := topS 29
abbrev s_law_image : Stmt := topS 30
abbrev s_law_times : Stmt := topS 32
abbrev s_law_det : Stmt := topS 34
abbrev s_law_row : Stmt := topS 38
abbrev s_law_steps : Stmt := topS 35
abbrev s_law_product : Stmt := topS 31
abbrev s_law_turned : Stmt := topS 33
abbrev s_law_menu : Stmt := topS 36
abbrev s_law_table : Stmt := topS 37
abbrev s_law_found : Stmt := topS 39
abbrev s_law : Stmt := topS 40
structure Txt (K : PySem.W.Frag) (mg : Str → Option Value) where
  a_dot : Addr
  fd_dot : FuncData
  F_dot : Fun K "dot" "dot" s_dot a_dot fd_dot
  g_dot : mg "dot" = some (.ref a_dot)
  b_dot : Binds K fd_dot ["first", "second"] []
  a_cross : Addr
  fd_cross : FuncData
  F_cross : Fun K "cross" "cross" s_cross a_cross fd_cross
  g_cross : mg "cross" = some (.ref a_cross)
  b_cross : Binds K fd_cross ["first", "second"] []
  a_transposed : Addr
  fd_transposed : FuncData
  F_transposed : Fun K "transposed" "transposed" s_transposed a_transposed fd_transposed
  g_transposed : mg "transposed" = some (.ref a_transposed)
  b_transposed : Binds K fd_transposed ["matrix"] []
  a_image : Addr
  fd_image : FuncData
  F_image : Fun K "image" "image" s_image a_image fd_image
  g_image : mg "image" = some (.ref a_image)
  b_image : Binds K fd_image ["matrix", "row"] []
  a_determinant_of : Addr
  fd_determinant_of : FuncData
  F_determinant_of : Fun K "determinant_of" "determinant_of" s_determinant_of a_determinant_of fd_determinant_of
  g_determinant_of : mg "determinant_of" = some (.ref a_determinant_of)
  b_determinant_of : Binds K fd_determinant_of ["matrix"] []
  a_adjugate_of : Addr
  fd_adjugate_of : FuncData
  F_adjugate_of : Fun K "adjugate_of" "adjugate_of" s_adjugate_of a_adjugate_of fd_adjugate_of
  g_adjugate_of : mg "adjugate_of" = some (.ref a_adjugate_of)
  b_adjugate_of : Binds K fd_adjugate_of ["matrix"] []
  a_matrix_product : Addr
  fd_matrix_product : FuncData
  F_matrix_product : Fun K "matrix_product" "matrix_product" s_matrix_product a_matrix_product fd_matrix_product
  g_matrix_product : mg "matrix_product" = some (.ref a_matrix_product)
  b_matrix_product : Binds K fd_matrix_product ["first", "second"] []
  a_has_inverse : Addr
  fd_has_inverse : FuncData
  F_has_inverse : Fun K "has_inverse" "has_inverse" s_has_inverse a_has_inverse fd_has_inverse
  g_has_inverse : mg "has_inverse" = some (.ref a_has_inverse)
  b_has_inverse : Binds K fd_has_inverse ["matrix"] []
  a_inverse_of : Addr
  fd_inverse_of : FuncData
  F_inverse_of : Fun K "inverse_of" "inverse_of" s_inverse_of a_inverse_of fd_inverse_of
  g_inverse_of : mg "inverse_of" = some (.ref a_inverse_of)
  b_inverse_of : Binds K fd_inverse_of ["matrix"] []
  a_is_whole : Addr
  fd_is_whole : FuncData
  F_is_whole : Fun K "is_whole" "is_whole" s_is_whole a_is_whole fd_is_whole
  g_is_whole : mg "is_whole" = some (.ref a_is_whole)
  b_is_whole : Binds K fd_is_whole ["value"] []
  a_is_within : Addr
  fd_is_within : FuncData
  F_is_within : Fun K "is_within" "is_within" s_is_within a_is_within fd_is_within
  g_is_within : mg "is_within" = some (.ref a_is_within)
  b_is_within : Binds K fd_is_within ["value", "least", "greatest"] []
  a_products_of_images : Addr
  fd_products_of_images : FuncData
  F_products_of_images : Fun K "products_of_images" "products_of_images" s_products_of_images a_products_of_images fd_products_of_images
  g_products_of_images : mg "products_of_images" = some (.ref a_products_of_images)
  b_products_of_images : Binds K fd_products_of_images ["table", "matrix"] []
  a_is_item : Addr
  fd_is_item : FuncData
  F_is_item : Fun K "is_item" "is_item" s_is_item a_is_item fd_is_item
  g_is_item : mg "is_item" = some (.ref a_is_item)
  b_is_item : Binds K fd_is_item ["value"] []
  a_is_below_zero : Addr
  fd_is_below_zero : FuncData
  F_is_below_zero : Fun K "is_below_zero" "is_below_zero" s_is_below_zero a_is_below_zero fd_is_below_zero
  g_is_below_zero : mg "is_below_zero" = some (.ref a_is_below_zero)
  b_is_below_zero : Binds K fd_is_below_zero ["table"] []
  a_check_form : Addr
  fd_check_form : FuncData
  F_check_form : Fun K "check_form" "check_form" s_check_form a_check_form fd_check_form
  g_check_form : mg "check_form" = some (.ref a_check_form)
  b_check_form : Binds K fd_check_form ["table"] []
  a_last_of : Addr
  fd_last_of : FuncData
  F_last_of : Fun K "last_of" "last_of" s_last_of a_last_of fd_last_of
  g_last_of : mg "last_of" = some (.ref a_last_of)
  b_last_of : Binds K fd_last_of ["table"] []
  a_Form__init_ : Addr
  fd_Form__init_ : FuncData
  F_Form__init_ : Fun K "__init__" "Form.__init__" s_Form__init_ a_Form__init_ fd_Form__init_
  b_Form__init_ : Binds K fd_Form__init_ ["self", "table"] []
  a_Form_product : Addr
  fd_Form_product : FuncData
  F_Form_product : Fun K "product" "Form.product" s_Form_product a_Form_product fd_Form_product
  b_Form_product : Binds K fd_Form_product ["self", "v", "w"] []
  a_Form_moved : Addr
  fd_Form_moved : FuncData
  F_Form_moved : Fun K "moved" "Form.moved" s_Form_moved a_Form_moved fd_Form_moved
  b_Form_moved : Binds K fd_Form_moved ["self", "matrix"] []
  a_law_draws : Addr
  fd_law_draws : FuncData
  F_law_draws : Fun K "_law_draws" "_law_draws" s_law_draws a_law_draws fd_law_draws
  g_law_draws : mg "_law_draws" = some (.ref a_law_draws)
  b_law_draws : Binds K fd_law_draws ["script", "many"] []
  a_law_image : Addr
  fd_law_image : FuncData
  F_law_image : Fun K "_law_image" "_law_image" s_law_image a_law_image fd_law_image
  g_law_image : mg "_law_image" = some (.ref a_law_image)
  b_law_image : Binds K fd_law_image ["matrix", "row"] []
  a_law_times : Addr
  fd_law_times : FuncData
  F_law_times : Fun K "_law_times" "_law_times" s_law_times a_law_times fd_law_times
  g_law_times : mg "_law_times" = some (.ref a_law_times)
  b_law_times : Binds K fd_law_times ["first", "second"] []
  a_law_det : Addr
  fd_law_det : FuncData
  F_law_det : Fun K "_law_det" "_law_det" s_law_det a_law_det fd_law_det
  g_law_det : mg "_law_det" = some (.ref a_law_det)
  b_law_det : Binds K fd_law_det ["m"] []
  a_law_row : Addr
  fd_law_row : FuncData
  F_law_row : Fun K "_law_row" "_law_row" s_law_row a_law_row fd_law_row
  g_law_row : mg "_law_row" = some (.ref a_law_row)
  b_law_row : Binds K fd_law_row ["draws", "most"] []
  a_law_steps : Addr
  fd_law_steps : FuncData
  F_law_steps : Fun K "_law_steps" "_law_steps" s_law_steps a_law_steps fd_law_steps
  g_law_steps : mg "_law_steps" = some (.ref a_law_steps)
  b_law_steps : Binds K fd_law_steps ["draws", "many"] []
  a_law_product : Addr
  fd_law_product : FuncData
  F_law_product : Fun K "_law_product" "_law_product" s_law_product a_law_product fd_law_product
  g_law_product : mg "_law_product" = some (.ref a_law_product)
  b_law_product : Binds K fd_law_product ["table", "v", "w"] []
  a_law_turned : Addr
  fd_law_turned : FuncData
  F_law_turned : Fun K "_law_turned" "_law_turned" s_law_turned a_law_turned fd_law_turned
  g_law_turned : mg "_law_turned" = some (.ref a_law_turned)
  b_law_turned : Binds K fd_law_turned ["matrix"] []
  a_law_menu : Addr
  fd_law_menu : FuncData
  F_law_menu : Fun K "_law_menu" "_law_menu" s_law_menu a_law_menu fd_law_menu
  g_law_menu : mg "_law_menu" = some (.ref a_law_menu)
  b_law_menu : Binds K fd_law_menu [] []
  a_law_table : Addr
  fd_law_table : FuncData
  F_law_table : Fun K "_law_table" "_law_table" s_law_table a_law_table fd_law_table
  g_law_table : mg "_law_table" = some (.ref a_law_table)
  b_law_table : Binds K fd_law_table ["draws"] []
  a_law_found : Addr
  fd_law_found : FuncData
  F_law_found : Fun K "_law_found" "_law_found" s_law_found a_law_found fd_law_found
  g_law_found : mg "_law_found" = some (.ref a_law_found)
  b_law_found : Binds K fd_law_found ["form", "matrix"] []
  z_abs : mg "abs" = none
  z_isinstance : mg "isinstance" = none
  z_bool : mg "bool" = none
  z_int : mg "int" = none
  z_all : mg "all" = none
  z_range : mg "range" = none
  z_len : mg "len" = none
  z_tuple : mg "tuple" = none
  z_max : mg "max" = none
  z_list : mg "list" = none
  C_BadMatrix : Addr
  g_BadMatrix : mg "BadMatrix" = some (.ref C_BadMatrix)
  x_BadMatrix : PySem.W.excIn K C_BadMatrix [.type "ValueError", .type "Exception", .type "BaseException", .type "object"] "ValueError.__new__" = true
  k_BadMatrix : PySem.W.keepIn K (.ref C_BadMatrix) = true
  b_BadMatrix : PySem.W.subIn K (.ref C_BadMatrix) (.type "BaseException") = some true
  t_BadMatrix : PySem.W.typeIn K (.ref C_BadMatrix) = some (.type "type")
  h_BadMatrix : PySem.W.hasDictIn K C_BadMatrix = true
  C_BadForm : Addr
  g_BadForm : mg "BadForm" = some (.ref C_BadForm)
  x_BadForm : PySem.W.excIn K C_BadForm [.type "ValueError", .type "Exception", .type "BaseException", .type "object"] "ValueError.__new__" = true
  k_BadForm : PySem.W.keepIn K (.ref C_BadForm) = true
  b_BadForm : PySem.W.subIn K (.ref C_BadForm) (.type "BaseException") = some true
  t_BadForm : PySem.W.typeIn K (.ref C_BadForm) = some (.type "type")
  h_BadForm : PySem.W.hasDictIn K C_BadForm = true
  C_ConeroomError : Addr
  g_ConeroomError : mg "ConeroomError" = some (.ref C_ConeroomError)
  x_ConeroomError : PySem.W.excIn K C_ConeroomError [.type "ValueError", .type "Exception", .type "BaseException", .type "object"] "ValueError.__new__" = true
  k_ConeroomError : PySem.W.keepIn K (.ref C_ConeroomError) = true
  b_ConeroomError : PySem.W.subIn K (.ref C_ConeroomError) (.type "BaseException") = some true
  t_ConeroomError : PySem.W.typeIn K (.ref C_ConeroomError) = some (.type "type")
  h_ConeroomError : PySem.W.hasDictIn K C_ConeroomError = true
  E_BadMatrix : ExcC K C_BadMatrix
  E_BadForm : ExcC K C_BadForm
  m_BadMatrix_ConeroomError : PySem.W.exmOne K (.ref C_BadMatrix) (.ref C_ConeroomError) = some true
  m_BadForm_ConeroomError : PySem.W.exmOne K (.ref C_BadForm) (.ref C_ConeroomError) = some true
  k_BadMatrix_BadMatrix : PySem.W.kitOne K (.ref C_BadMatrix) (.ref C_BadMatrix) = some true
  k_BadMatrix_BadForm : PySem.W.kitOne K (.ref C_BadMatrix) (.ref C_BadForm) = some false
  k_BadForm_BadMatrix : PySem.W.kitOne K (.ref C_BadForm) (.ref C_BadMatrix) = some false
  k_BadForm_BadForm : PySem.W.kitOne K (.ref C_BadForm) (.ref C_BadForm) = some true
  v_GREATEST_ITEM : Tok
  c_GREATEST_ITEM : mg "GREATEST_ITEM" = some (.int (1000) v_GREATEST_ITEM)
  v_LEAST_DETERMINANT : Tok
  c_LEAST_DETERMINANT : mg "LEAST_DETERMINANT" = some (.int (-500) v_LEAST_DETERMINANT)
  z_gcd : mg "gcd" = some (.builtin "math.gcd")
  C_Form : Addr
  g_Form : mg "Form" = some (.ref C_Form)
  c_Form : Cls K C_Form
  n_Form_table : NoAttr K C_Form "table"
  n_Form_determinant : NoAttr K C_Form "determinant"
  n_Form_last : NoAttr K C_Form "last"
  M_Form : Mk K C_Form a_Form__init_
  m_Form_product : Meth K C_Form "product" a_Form_product
  m_Form_moved : Meth K C_Form "moved" a_Form_moved
  I_Form : InsC K C_Form
  q_Form : PySem.W.findIn K (.ref C_Form) "__eq__" = some (some (.builtin "object.__eq__"))
  ss_Form : PySem.W.subIn K (.type "str") (.ref C_Form) = some false
  kl_Form_list : PySem.W.kitOne K (.ref C_Form) (.type "list") = some false
section
variable {P : Program} {w : World} {K : PySem.W.Frag} {mg : Str → Option Value} {base : Heap}
theorem sc_dot : FnScope ["first", "second"] ["first", "second"] (defScope s_dot) := ⟨rfl, rfl, rfl, by decide +kernel, rfl, by decide +kernel, by decide +kernel⟩
def R_dot : List D → D → Prop := fun ds r => ∃ (u v : Row) (n k : Nat), ds = [.t (row u), .t (row v)] ∧ r = .t (.int (dot u v)) ∧ u.sm n ∧ v.sm k ∧ n ≤ 100000 ∧ k ≤ 100000
theorem ok_dot (T : Txt K mg) : FnOk P w K mg base CX0 1 T.a_dot T.fd_dot ["first", "second"] (spD K R_dot) := by
  refine fn_d T.F_dot sc_dot (fun ds r h => ?_) (fun cdv A outer s H E hr => ?_)
  · obtain ⟨u, v, n, k, rfl, _⟩ := h
    rfl
  · have hu := hr.units
    skip
    refine ⟨_, (pss_one (ps_ret (pe_op op_add (pe_op op_add (pe_op op_mulW (pk_ixT K (pv 0) pe_int (fun _ _ => rfl)) (pk_ixT K (pv 1) pe_int (fun _ _ => rfl))) (pe_op op_mulW (pk_ixT K (pv 0) pe_int (fun _ _ => rfl)) (pk_ixT K (pv 1) pe_int (fun _ _ => rfl)))) (pe_op op_mulW (pk_ixT K (pv 0) pe_int (fun _ _ => rfl)) (pk_ixT K (pv 1) pe_int (fun _ _ => rfl)))))), fun ds r h => ?_⟩
    obtain ⟨u, v, n, k, rfl, rfl, hc⟩ := h
    obtain ⟨hm, hk, hn, hn2⟩ := hc
    show Sv K W0 _ [D.t (row u), D.t (row v), ] _
    refine (sv_ret (ev_add (ev_add (ev_mul (ev_ixT (ev_var rfl) ev_int (by rfl)) (ev_ixT (ev_var rfl) ev_int (by rfl)) (by walk_at "smk")) (ev_mul (ev_ixT (ev_var rfl) ev_int (by rfl)) (ev_ixT (ev_var rfl) ev_int (by rfl)) (by walk_at "smk"))) (ev_mul (ev_ixT (ev_var rfl) ev_int (by rfl)) (ev_ixT (ev_var rfl) ev_int (by rfl)) (by walk_at "smk"))) ?_)
    rfl
local macro_rules | `(tactic| walk_at "R_dot") => `(tactic| exact ⟨_, _, _, _, rfl, rfl, by walk_at "sm", by walk_at "sm", by first | decide | omega, by first | decide | omega⟩)
theorem sc_cross : FnScope ["first", "second"] ["first", "second"] (defScope s_cross) := ⟨rfl, rfl, rfl, by decide +kernel, rfl, by decide +kernel, by decide +kernel⟩
def R_cross : List D → D → Prop := fun ds r => ∃ (u v : Row) (n k : Nat), ds = [.t (row u), .t (row v)] ∧ r = .t (row (cross u v)) ∧ u.sm n ∧ v.sm k ∧ n ≤ 100000 ∧ k ≤ 100000
theorem ok_cross (T : Txt K mg) : FnOk P w K mg base CX0 1 T.a_cross T.fd_cross ["first", "second"] (spD K R_cross) := by
  refine fn_d T.F_cross sc_cross (fun ds r h => ?_) (fun cdv A outer s H E hr => ?_)
  · obtain ⟨u, v, n, k, rfl, _⟩ := h
    rfl
  · have hu := hr.units
    skip
    refine ⟨_, (pss_one (ps_ret (pe_tup (pa_cons (pe_op op_sub (pe_op op_mulW (pk_ixT K (pv 0) pe_int (fun _ _ => rfl)) (pk_ixT K (pv 1) pe_int (fun _ _ => rfl))) (pe_op op_mulW (pk_ixT K (pv 0) pe_int (fun _ _ => rfl)) (pk_ixT K (pv 1) pe_int (fun _ _ => rfl)))) (pa_cons (pe_op op_sub (pe_op op_mulW (pk_ixT K (pv 0) pe_int (fun _ _ => rfl)) (pk_ixT K (pv 1) pe_int (fun _ _ => rfl))) (pe_op op_mulW (pk_ixT K (pv 0) pe_int (fun _ _ => rfl)) (pk_ixT K (pv 1) pe_int (fun _ _ => rfl)))) (pa_cons (pe_op op_sub (pe_op op_mulW (pk_ixT K (pv 0) pe_int (fun _ _ => rfl)) (pk_ixT K (pv 1) pe_int (fun _ _ => rfl))) (pe_op op_mulW (pk_ixT K (pv 0) pe_int (fun _ _ => rfl)) (pk_ixT K (pv 1) pe_int (fun _ _ => rfl)))) pa_nil)))))), fun ds r h => ?_⟩
    obtain ⟨u, v, n, k, rfl, rfl, hc⟩ := h
    obtain ⟨hm, hk, hn, hn2⟩ := hc
    show Sv K W0 _ [D.t (row u), D.t (row v), ] _
    refine (sv_ret (ev_row (ev_sub (ev_mul (ev_ixT (ev_var rfl) ev_int (by rfl)) (ev_ixT (ev_var rfl) ev_int (by rfl)) (by walk_at "smk")) (ev_mul (ev_ixT (ev_var rfl) ev_int (by rfl)) (ev_ixT (ev_var rfl) ev_int (by rfl)) (by walk_at "smk"))) (ev_sub (ev_mul (ev_ixT (ev_var rfl) ev_int (by rfl)) (ev_ixT (ev_var rfl) ev_int (by rfl)) (by walk_at "smk")) (ev_mul (ev_ixT (ev_var rfl) ev_int (by rfl)) (ev_ixT (ev_var rfl) ev_int (by rfl)) (by walk_at "smk"))) (ev_sub (ev_mul (ev_ixT (ev_var rfl) ev_int (by rfl)) (ev_ixT (ev_var rfl) ev_int (by rfl)) (by walk_at "smk")) (ev_mul (ev_ixT (ev_var rfl) ev_int (by rfl)) (ev_ixT (ev_var rfl) ev_int (by rfl)) (by walk_at "smk")))) ?_)
    rfl
local macro_rules | `(tactic| walk_at "R_cross") => `(tactic| exact ⟨_, _, _, _, rfl, rfl, by walk_at "sm", by walk_at "sm", by first | decide | omega, by first | decide | omega⟩)
theorem sc_transposed : FnScope ["matrix", "first", "second", "third"] ["matrix"] (defScope s_transposed) := ⟨rfl, rfl, rfl, by decide +kernel, rfl, by decide +kernel, by decide +kernel⟩
def R_transposed : List D → D → Prop := fun ds r => ∃ (m : Mat), ds = [.t (mat m)] ∧ r = .t (mat m.tr) ∧ True
theorem ok_transposed (T : Txt K mg) : FnOk P w K mg base CX0 1 T.a_transposed T.fd_transposed ["matrix"] (spD K R_transposed) := by
  refine fn_d T.F_transposed sc_transposed (fun ds r h => ?_) (fun cdv A outer s H E hr => ?_)
  · obtain ⟨m, rfl, _⟩ := h
    rfl
  · have hu := hr.units
    skip
    refine ⟨_, (pss_cons (ps_asg (pv 0) (pgk_tup K rfl (pgs_cons (pg_name (i := 1) sc_transposed.nd rfl (by first | exact Or.inl rfl | exact Or.inr rfl)) (pgs_cons (pg_name (i := 2) sc_transposed.nd rfl (by first | exact Or.inl rfl | exact Or.inr rfl)) (pgs_cons (pg_name (i := 3) sc_transposed.nd rfl (by first | exact Or.inl rfl | exact Or.inr rfl)) pgs_nil)))))
    (pss_one (ps_ret (pe_tup (pa_cons (pe_tup (pa_cons (pk_ixT K (pv 1) pe_int (fun _ _ => rfl)) (pa_cons (pk_ixT K (pv 2) pe_int (fun _ _ => rfl)) (pa_cons (pk_ixT K (pv 3) pe_int (fun _ _ => rfl)) pa_nil)))) (pa_cons (pe_tup (pa_cons (pk_ixT K (pv 1) pe_int (fun _ _ => rfl)) (pa_cons (pk_ixT K (pv 2) pe_int (fun _ _ => rfl)) (pa_cons (pk_ixT K (pv 3) pe_int (fun _ _ => rfl)) pa_nil)))) (pa_cons (pe_tup (pa_cons (pk_ixT K (pv 1) pe_int (fun _ _ => rfl)) (pa_cons (pk_ixT K (pv 2) pe_int (fun _ _ => rfl)) (pa_cons (pk_ixT K (pv 3) pe_int (fun _ _ => rfl)) pa_nil)))) pa_nil))))))), fun ds r h => ?_⟩
    obtain ⟨m, rfl, rfl, hc⟩ := h

    show Sv K W0 _ [D.t (mat m), D.no, D.no, D.no] _
    refine (sv_then _ (sv_asg (ev_var rfl) (gd_tup rfl (gds_cons (gd_name _ _) (gds_cons (gd_name _ _) (gds_cons (gd_name _ _) gds_nil)))) rfl)
    (sv_ret (ev_mat (ev_row (ev_ixT (ev_var rfl) ev_int (by rfl)) (ev_ixT (ev_var rfl) ev_int (by rfl)) (ev_ixT (ev_var rfl) ev_int (by rfl))) (ev_row (ev_ixT (ev_var rfl) ev_int (by rfl)) (ev_ixT (ev_var rfl) ev_int (by rfl)) (ev_ixT (ev_var rfl) ev_int (by rfl))) (ev_row (ev_ixT (ev_var rfl) ev_int (by rfl)) (ev_ixT (ev_var rfl) ev_int (by rfl)) (ev_ixT (ev_var rfl) ev_int (by rfl)))) ?_))
    rfl
local macro_rules | `(tactic| walk_at "R_transposed") => `(tactic| exact ⟨_, rfl, rfl, trivial⟩)
theorem sc_image : FnScope ["matrix", "row"] ["matrix", "row"] (defScope s_image) := ⟨rfl, rfl, rfl, by decide +kernel, rfl, by decide +kernel, by decide +kernel⟩
def R_image : List D → D → Prop := fun ds r => ∃ (m : Mat) (v : Row) (n k : Nat), ds = [.t (mat m), .t (row v)] ∧ r = .t (row (image m v)) ∧ m.sm n ∧ v.sm k ∧ n ≤ 90000 ∧ k ≤ 90000
theorem ok_image (T : Txt K mg) : FnOk P w K mg base CX0 2 T.a_image T.fd_image ["matrix", "row"] (spD K R_image) := by
  refine fn_d T.F_image sc_image (fun ds r h => ?_) (fun cdv A outer s H E hr => ?_)
  · obtain ⟨m, v, n, k, rfl, _⟩ := h
    rfl
  · have hu := hr.units
    have G_dot : FnOk P w K mg base CX0 1 T.a_dot T.fd_dot ["first", "second"] (spD K R_dot) := ok_dot T
    refine ⟨_, (pss_one (ps_ret (pe_tup (pa_cons (pe_call G_dot (hr.mono (by decide)) (by rfl) T.g_dot T.F_dot.kp T.b_dot .nil pass0 (pa_cons (pk_ixT K (pv 0) pe_int (fun _ _ => rfl)) (pa_cons (pv 1) pa_nil))) (pa_cons (pe_call G_dot (hr.mono (by decide)) (by rfl) T.g_dot T.F_dot.kp T.b_dot .nil pass0 (pa_cons (pk_ixT K (pv 0) pe_int (fun _ _ => rfl)) (pa_cons (pv 1) pa_nil))) (pa_cons (pe_call G_dot (hr.mono (by decide)) (by rfl) T.g_dot T.F_dot.kp T.b_dot .nil pass0 (pa_cons (pk_ixT K (pv 0) pe_int (fun _ _ => rfl)) (pa_cons (pv 1) pa_nil))) pa_nil)))))), fun ds r h => ?_⟩
    obtain ⟨m, v, n, k, rfl, rfl, hc⟩ := h
    obtain ⟨hm, hk, hn, hn2⟩ := hc
    show Sv K W0 _ [D.t (mat m), D.t (row v), ] _
    refine (sv_ret (ev_row (ev_call (eva_t (ev_ixT (ev_var rfl) ev_int (by rfl)) (eva_t (ev_var rfl) eva_nil)) (by walk_at "R_dot")) (ev_call (eva_t (ev_ixT (ev_var rfl) ev_int (by rfl)) (eva_t (ev_var rfl) eva_nil)) (by walk_at "R_dot")) (ev_call (eva_t (ev_ixT (ev_var rfl) ev_int (by rfl)) (eva_t (ev_var rfl) eva_nil)) (by walk_at "R_dot"))) ?_)
    rfl
local macro_rules | `(tactic| walk_at "R_image") => `(tactic| exact ⟨_, _, _, _, rfl, rfl, by walk_at "sm", by walk_at "sm", by first | decide | omega, by first | decide | omega⟩)
theorem sc_determinant_of : FnScope ["matrix", "first", "second", "third"] ["matrix"] (defScope s_determinant_of) := ⟨rfl, rfl, rfl, by decide +kernel, rfl, by decide +kernel, by decide +kernel⟩
def R_determinant_of : List D → D → Prop := fun ds r => ∃ (m : Mat) (n : Nat), ds = [.t (mat m)] ∧ r = .t (.int (det m)) ∧ m.sm n ∧ n ≤ 40000
theorem ok_determinant_of (T : Txt K mg) : FnOk P w K mg base CX0 2 T.a_determinant_of T.fd_determinant_of ["matrix"] (spD K R_determinant_of) := by
  refine fn_d T.F_determinant_of sc_determinant_of (fun ds r h => ?_) (fun cdv A outer s H E hr => ?_)
  · obtain ⟨m, n, rfl, _⟩ := h
    rfl
  · have hu := hr.units
    have G_dot : FnOk P w K mg base CX0 1 T.a_dot T.fd_dot ["first", "second"] (spD K R_dot) := ok_dot T
    have G_cross : FnOk P w K mg base CX0 1 T.a_cross T.fd_cross ["first", "second"] (spD K R_cross) := ok_cross T
    refine ⟨_, (pss_cons (ps_asg (pv 0) (pgk_tup K rfl (pgs_cons (pg_name (i := 1) sc_determinant_of.nd rfl (by first | exact Or.inl rfl | exact Or.inr rfl)) (pgs_cons (pg_name (i := 2) sc_determinant_of.nd rfl (by first | exact Or.inl rfl | exact Or.inr rfl)) (pgs_cons (pg_name (i := 3) sc_determinant_of.nd rfl (by first | exact Or.inl rfl | exact Or.inr rfl)) pgs_nil)))))
    (pss_one (ps_ret (pe_call G_dot (hr.mono (by decide)) (by rfl) T.g_dot T.F_dot.kp T.b_dot .nil pass0 (pa_cons (pe_call G_cross (hr.mono (by decide)) (by rfl) T.g_cross T.F_cross.kp T.b_cross .nil pass0 (pa_cons (pv 1) (pa_cons (pv 2) pa_nil))) (pa_cons (pv 3) pa_nil)))))), fun ds r h => ?_⟩
    obtain ⟨m, n, rfl, rfl, hc⟩ := h
    obtain ⟨hm, hn⟩ := hc
    show Sv K W0 _ [D.t (mat m), D.no, D.no, D.no] _
    refine (sv_then _ (sv_asg (ev_var rfl) (gd_tup rfl (gds_cons (gd_name _ _) (gds_cons (gd_name _ _) (gds_cons (gd_name _ _) gds_nil)))) rfl)
    (sv_ret (ev_call (eva_t (ev_call (eva_t (ev_var rfl) (eva_t (ev_var rfl) eva_nil)) (by walk_at "R_cross")) (eva_t (ev_var rfl) eva_nil)) (by walk_at "R_dot")) ?_))
    rfl
local macro_rules | `(tactic| walk_at "R_determinant_of") => `(tactic| exact ⟨_, _, rfl, rfl, by walk_at "sm", by first | decide | omega⟩)
theorem sc_adjugate_of : FnScope ["matrix", "first", "second", "third"] ["matrix"] (defScope s_adjugate_of) := ⟨rfl, rfl, rfl, by decide +kernel, rfl, by decide +kernel, by decide +kernel⟩
def R_adjugate_of : List D → D → Prop := fun ds r => ∃ (m : Mat) (n : Nat), ds = [.t (mat m)] ∧ r = .t (mat (adj m)) ∧ m.sm n ∧ n ≤ 40000
theorem ok_adjugate_of (T : Txt K mg) : FnOk P w K mg base CX0 2 T.a_adjugate_of T.fd_adjugate_of ["matrix"] (spD K R_adjugate_of) := by
  refine fn_d T.F_adjugate_of sc_adjugate_of (fun ds r h => ?_) (fun cdv A outer s H E hr => ?_)
  · obtain ⟨m, n, rfl, _⟩ := h
    rfl
  · have hu := hr.units
    have G_transposed : FnOk P w K mg base CX0 1 T.a_transposed T.fd_transposed ["matrix"] (spD K R_transposed) := ok_transposed T
    have G_cross : FnOk P w K mg base CX0 1 T.a_cross T.fd_cross ["first", "second"] (spD K R_cross) := ok_cross T
    refine ⟨_, (pss_cons (ps_asg (pv 0) (pgk_tup K rfl (pgs_cons (pg_name (i := 1) sc_adjugate_of.nd rfl (by first | exact Or.inl rfl | exact Or.inr rfl)) (pgs_cons (pg_name (i := 2) sc_adjugate_of.nd rfl (by first | exact Or.inl rfl | exact Or.inr rfl)) (pgs_cons (pg_name (i := 3) sc_adjugate_of.nd rfl (by first | exact Or.inl rfl | exact Or.inr rfl)) pgs_nil)))))
    (pss_one (ps_ret (pe_call G_transposed (hr.mono (by decide)) (by rfl) T.g_transposed T.F_transposed.kp T.b_transposed .nil pass0 (pa_cons (pe_tup (pa_cons (pe_call G_cross (hr.mono (by decide)) (by rfl) T.g_cross T.F_cross.kp T.b_cross .nil pass0 (pa_cons (pv 2) (pa_cons (pv 3) pa_nil))) (pa_cons (pe_call G_cross (hr.mono (by decide)) (by rfl) T.g_cross T.F_cross.kp T.b_cross .nil pass0 (pa_cons (pv 3) (pa_cons (pv 1) pa_nil))) (pa_cons (pe_call G_cross (hr.mono (by decide)) (by rfl) T.g_cross T.F_cross.kp T.b_cross .nil pass0 (pa_cons (pv 1) (pa_cons (pv 2) pa_nil))) pa_nil)))) pa_nil))))), fun ds r h => ?_⟩
    obtain ⟨m, n, rfl, rfl, hc⟩ := h
    obtain ⟨hm, hn⟩ := hc
    show Sv K W0 _ [D.t (mat m), D.no, D.no, D.no] _
    refine (sv_then _ (sv_asg (ev_var rfl) (gd_tup rfl (gds_cons (gd_name _ _) (gds_cons (gd_name _ _) (gds_cons (gd_name _ _) gds_nil)))) rfl)
    (sv_ret (ev_call (eva_t (ev_mat (ev_call (eva_t (ev_var rfl) (eva_t (ev_var rfl) eva_nil)) (by walk_at "R_cross")) (ev_call (eva_t (ev_var rfl) (eva_t (ev_var rfl) eva_nil)) (by walk_at "R_cross")) (ev_call (eva_t (ev_var rfl) (eva_t (ev_var rfl) eva_nil)) (by walk_at "R_cross"))) eva_nil) (by walk_at "R_transposed")) ?_))
    rfl
local macro_rules | `(tactic| walk_at "R_adjugate_of") => `(tactic| exact ⟨_, _, rfl, rfl, by walk_at "sm", by first | decide | omega⟩)

theorem sc_matrix_product : FnScope ["first", "second", "columns"] ["first", "second"] (defScope s_matrix_product) := ⟨rfl, rfl, rfl, by decide +kernel, rfl, by decide +kernel, by decide +kernel⟩
def R_matrix_product : List D → D → Prop := fun ds r => ∃ (m q : Mat) (n k : Nat), ds = [.t (mat m), .t (mat q)] ∧ r = .t (mat (mul m q)) ∧ m.sm n ∧ q.sm k ∧ n ≤ 90000 ∧ k ≤ 90000
theorem ok_matrix_product (T : Txt K mg) : FnOk P w K mg base CX0 3 T.a_matrix_product T.fd_matrix_product ["first", "second"] (spD K R_matrix_product) := by
  refine fn_d T.F_matrix_product sc_matrix_product (fun ds r h => ?_) (fun cdv A outer s H E hr => ?_)
  · obtain ⟨m, q, n, k, rfl, _⟩ := h
    rfl
  · have hu := hr.units
    have G_transposed : FnOk P w K mg base CX0 1 T.a_transposed T.fd_transposed ["matrix"] (spD K R_transposed) := ok_transposed T
    have G_image : FnOk P w K mg base CX0 2 T.a_image T.fd_image ["matrix", "row"] (spD K R_image) := ok_image T
    refine ⟨_, (pss_cons (ps_set (i := 2) sc_matrix_product.nd rfl (by first | exact Or.inl rfl | exact Or.inr rfl) (pe_call G_transposed (hr.mono (by decide)) (by rfl) T.g_transposed T.F_transposed.kp T.b_transposed .nil pass0 (pa_cons (pv 1) pa_nil)))
    (pss_one (ps_ret (pe_tup (pa_cons (pe_call G_image (hr.mono (by decide)) (by rfl) T.g_image T.F_image.kp T.b_image .nil pass0 (pa_cons (pv 2) (pa_cons (pk_ixT K (pv 0) pe_int (fun _ _ => rfl)) pa_nil))) (pa_cons (pe_call G_image (hr.mono (by decide)) (by rfl) T.g_image T.F_image.kp T.b_image .nil pass0 (pa_cons (pv 2) (pa_cons (pk_ixT K (pv 0) pe_int (fun _ _ => rfl)) pa_nil))) (pa_cons (pe_call G_image (hr.mono (by decide)) (by rfl) T.g_image T.F_image.kp T.b_image .nil pass0 (pa_cons (pv 2) (pa_cons (pk_ixT K (pv 0) pe_int (fun _ _ => rfl)) pa_nil))) pa_nil))))))), fun ds r h => ?_⟩
    obtain ⟨m, q, n, k, rfl, rfl, hc⟩ := h
    obtain ⟨hm, hk, hn, hn2⟩ := hc
    show Sv K W0 _ [D.t (mat m), D.t (mat q), D.no] _
    refine (sv_then _ (sv_set (ev_call (eva_t (ev_var rfl) eva_nil) (by walk_at "R_transposed")) rfl)
    (sv_ret (ev_mat (ev_call (eva_t (ev_var rfl) (eva_t (ev_ixT (ev_var rfl) ev_int (by rfl)) eva_nil)) (by walk_at "R_image")) (ev_call (eva_t (ev_var rfl) (eva_t (ev_ixT (ev_var rfl) ev_int (by rfl)) eva_nil)) (by walk_at "R_image")) (ev_call (eva_t (ev_var rfl) (eva_t (ev_ixT (ev_var rfl) ev_int (by rfl)) eva_nil)) (by walk_at "R_image"))) ?_))
    rfl
local macro_rules | `(tactic| walk_at "R_matrix_product") => `(tactic| exact ⟨_, _, _, _, rfl, rfl, by walk_at "sm", by walk_at "sm", by first | decide | omega, by first | decide | omega⟩)

theorem sc_has_inverse : FnScope ["matrix"] ["matrix"] (defScope s_has_inverse) := ⟨rfl, rfl, rfl, by decide +kernel, rfl, by decide +kernel, by decide +kernel⟩
def R_has_inverse : List D → D → Prop := fun ds r => ∃ (m : Mat) (n : Nat), ds = [.t (mat m)] ∧ r = .t (.bl (uni m)) ∧ m.sm n ∧ n ≤ 40000
theorem ok_has_inverse (T : Txt K mg) : FnOk P w K mg base CX0 3 T.a_has_inverse T.fd_has_inverse ["matrix"] (spD K R_has_inverse) := by
  refine fn_d T.F_has_inverse sc_has_inverse (fun ds r h => ?_) (fun cdv A outer s H E hr => ?_)
  · obtain ⟨m, n, rfl, _⟩ := h
    rfl
  · have hu := hr.units
    have G_determinant_of : FnOk P w K mg base CX0 2 T.a_determinant_of T.fd_determinant_of ["matrix"] (spD K R_determinant_of) := ok_determinant_of T
    refine ⟨_, (pss_one (ps_ret (pe_cmpR op_eq (pe_callB call_abs (by rfl) T.z_abs (by decide +kernel) (pa_cons (pe_call G_determinant_of (hr.mono (by decide)) (by rfl) T.g_determinant_of T.F_determinant_of.kp T.b_determinant_of .nil pass0 (pa_cons (pv 0) pa_nil)) pa_nil)) pe_int (nomark _)))), fun ds r h => ?_⟩
    obtain ⟨m, n, rfl, rfl, hc⟩ := h
    obtain ⟨hm, hn⟩ := hc
    show Sv K W0 _ [D.t (mat m), ] _
    refine (sv_ret (ev_eqI (ev_abs (ev_call (eva_t (ev_var rfl) eva_nil) (by walk_at "R_determinant_of"))) ev_int) ?_)
    rfl
local macro_rules | `(tactic| walk_at "R_has_inverse") => `(tactic| exact ⟨_, _, rfl, rfl, by walk_at "sm", by first | decide | omega⟩)

theorem sc_inverse_of : FnScope ["matrix", "sign"] ["matrix"] (defScope s_inverse_of) := ⟨rfl, rfl, rfl, by decide +kernel, rfl, by decide +kernel, by decide +kernel⟩
def R_inverse_of (C : Addr) : List D → Rs → Prop := fun ds r => ∃ (m : Mat) (n : Nat), ds = [.t (mat m)] ∧ r = (if uni m = true then .ok (.t (mat (inv m))) else .er C) ∧ m.sm n ∧ n ≤ 20000
theorem ok_inverse_of (T : Txt K mg) : FnOk P w K mg base (L2.CX P w) 4 T.a_inverse_of T.fd_inverse_of ["matrix"] (spX K (R_inverse_of T.C_BadMatrix)) := by
  refine fn_x T.F_inverse_of sc_inverse_of (fun ds r h => ?_) (fun cdv A outer s H E hr => ?_)
  · obtain ⟨m, n, rfl, _⟩ := h
    rfl
  · have hu := hr.units
    have G_has_inverse : FnOk P w K mg base CX0 3 T.a_has_inverse T.fd_has_inverse ["matrix"] (spD K R_has_inverse) := ok_has_inverse T
    have G_determinant_of : FnOk P w K mg base CX0 2 T.a_determinant_of T.fd_determinant_of ["matrix"] (spD K R_determinant_of) := ok_determinant_of T
    have G_matrix_product : FnOk P w K mg base CX0 3 T.a_matrix_product T.fd_matrix_product ["first", "second"] (spD K R_matrix_product) := ok_matrix_product T
    have G_adjugate_of : FnOk P w K mg base CX0 2 T.a_adjugate_of T.fd_adjugate_of ["matrix"] (spD K R_adjugate_of) := ok_adjugate_of T
    refine ⟨_, (pss_cons (ps_if (pt_not (pt_val (pe_call G_has_inverse (hr.mono (by decide)) (by rfl) T.g_has_inverse T.F_has_inverse.kp T.b_has_inverse .nil pass0 (pa_cons (pv 0) pa_nil)))) (pss_one (ps_raise rfl (takes_of rfl rfl rfl rfl) (pmk_own PySem.F.excBase_ValueError T.x_BadMatrix T.g_BadMatrix T.k_BadMatrix (raises_own T.b_BadMatrix T.t_BadMatrix) rfl))) pss_nil)
    (pss_cons (ps_set (i := 1) sc_inverse_of.nd rfl (by first | exact Or.inl rfl | exact Or.inr rfl) (pe_call G_determinant_of (hr.mono (by decide)) (by rfl) T.g_determinant_of T.F_determinant_of.kp T.b_determinant_of .nil pass0 (pa_cons (pv 0) pa_nil)))
    (pss_one (ps_ret (pe_call G_matrix_product (hr.mono (by decide)) (by rfl) T.g_matrix_product T.F_matrix_product.kp T.b_matrix_product .nil pass0 (pa_cons (pe_call G_adjugate_of (hr.mono (by decide)) (by rfl) T.g_adjugate_of T.F_adjugate_of.kp T.b_adjugate_of .nil pass0 (pa_cons (pv 0) pa_nil)) (pa_cons (pe_tup (pa_cons (pe_tup (pa_cons (pv 1) (pa_cons pe_int (pa_cons pe_int pa_nil)))) (pa_cons (pe_tup (pa_cons pe_int (pa_cons (pv 1) (pa_cons pe_int pa_nil)))) (pa_cons (pe_tup (pa_cons pe_int (pa_cons pe_int (pa_cons (pv 1) pa_nil)))) pa_nil)))) pa_nil))))))), fun ds r h => ?_⟩
    obtain ⟨m, n, rfl, hr, hm, hn⟩ := h
    have hs := sgn_sm hm
    show Sv K _ _ [D.t (mat m), D.no] _
    refine sv_seq (fun G => G = [D.t (mat m), D.no] ∧ uni m = true) (sv_if (evb_not (evb_val (ev_call (eva_t (ev_var rfl) eva_nil) (by walk_at "R_has_inverse")))) (fun h => (sv_raise ?_)) (fun h => (sv_next ⟨rfl, by simpa using h⟩))) ?_
    · show r = .er T.C_BadMatrix
      rw [hr, if_neg (by simpa using h)]
    · rintro G ⟨rfl, hi⟩
      rw [if_pos hi] at hr
      refine (sv_then _ (sv_set (ev_call (eva_t (ev_var rfl) eva_nil) (by walk_at "R_determinant_of")) rfl)
        (sv_ret (ev_call (eva_t (ev_call (eva_t (ev_var rfl) eva_nil) (by walk_at "R_adjugate_of")) (eva_t (ev_mat (ev_row (ev_var rfl) ev_int ev_int) (ev_row ev_int (ev_var rfl) ev_int) (ev_row ev_int ev_int (ev_var rfl))) eva_nil)) (by exact ⟨_, sgn m, _, _, rfl, rfl, by walk_at "sm", hs, by omega, by omega⟩)) ?_))
      exact hr

local macro_rules | `(tactic| walk_at "R_inverse_of") => `(tactic| exact ⟨_, _, rfl, (if_pos (by assumption)).symm, by walk_at "sm", by first | decide | omega⟩)

theorem sc_is_whole : FnScope ["value"] ["value"] (defScope s_is_whole) := ⟨rfl, rfl, rfl, by decide +kernel, rfl, by decide +kernel, by decide +kernel⟩
def R_is_whole : List D → D → Prop := fun ds r => ∃ (x : T), ds = [.t x] ∧ r = .t (.bl (wholeB x)) ∧ tyT x ≠ none
theorem ok_is_whole (T : Txt K mg) : FnOk P w K mg base CX0 1 T.a_is_whole T.fd_is_whole ["value"] (spD K R_is_whole) := by
  refine fn_d T.F_is_whole sc_is_whole (fun ds r h => ?_) (fun cdv A outer s H E hr => ?_)
  · obtain ⟨x, rfl, _⟩ := h
    rfl
  · have hu := hr.units
    refine ⟨_, (pss_one (ps_ret (pe_and (pe_callB (ck_isi K) (by rfl) T.z_isinstance (by decide +kernel) (pa_cons (pv 0) (pa_cons (pe_bltn (v := .ty "int") (u := .type "int") (by rfl) T.z_int (by decide +kernel) rfl) pa_nil))) (pe_one (pe_not (pe_callB (ck_isi K) (by rfl) T.z_isinstance (by decide +kernel) (pa_cons (pv 0) (pa_cons (pe_bltn (v := .ty "bool") (u := .type "bool") (by rfl) T.z_bool (by decide +kernel) rfl) pa_nil)))))))), fun ds r h => ?_⟩
    obtain ⟨x, rfl, rfl, hx⟩ := h
    show Sv K W0 _ [D.t x] _
    cases x with
    | int i => exact sv_ret (ev_and2 (ev_isT (b := true) (ev_var rfl) rfl (by decide +kernel)) (ev_notV (ev_isT (b := false) (ev_var rfl) rfl (by decide +kernel)))) rfl
    | bl b => exact sv_ret (ev_and2 (ev_isT (b := true) (ev_var rfl) rfl (by decide +kernel)) (ev_notV (ev_isT (b := true) (ev_var rfl) rfl (by decide +kernel)))) rfl
    | non => exact sv_ret (ev_and2 (ev_isT (b := false) (ev_var rfl) rfl (by decide +kernel)) (ev_notV (ev_isT (b := false) (ev_var rfl) rfl (by decide +kernel)))) rfl
    | str z => exact sv_ret (ev_and2 (ev_isT (b := false) (ev_var rfl) rfl (by decide +kernel)) (ev_notV (ev_isT (b := false) (ev_var rfl) rfl (by decide +kernel)))) rfl
    | tup z => exact sv_ret (ev_and2 (ev_isT (b := false) (ev_var rfl) rfl (by decide +kernel)) (ev_notV (ev_isT (b := false) (ev_var rfl) rfl (by decide +kernel)))) rfl
    | obj _ _ _ => exact absurd rfl hx
local macro_rules | `(tactic| walk_at "R_is_whole") => `(tactic| exact ⟨_, rfl, rfl, (fun z => nomatch z)⟩)
theorem sc_is_within : FnScope ["value", "least", "greatest"] ["value", "least", "greatest"] (defScope s_is_within) := ⟨rfl, rfl, rfl, by decide +kernel, rfl, by decide +kernel, by decide +kernel⟩
def R_is_within : List D → D → Prop := fun ds r => ∃ (x a b : Int), ds = [.t (.int x), .t (.int a), .t (.int b)] ∧ r = .t (.bl (decide (a ≤ x) && decide (x ≤ b)))
theorem ok_is_within (T : Txt K mg) : FnOk P w K mg base CX0 2 T.a_is_within T.fd_is_within ["value", "least", "greatest"] (spD K R_is_within) := by
  refine fn_d T.F_is_within sc_is_within (fun ds r h => ?_) (fun cdv A outer s H E hr => ?_)
  · obtain ⟨x, a, b, rfl, _⟩ := h
    rfl
  · have hu := hr.units
    have G_is_whole : FnOk P w K mg base CX0 1 T.a_is_whole T.fd_is_whole ["value"] (spD K R_is_whole) := ok_is_whole T
    refine ⟨_, (pss_one (ps_ret (pe_and (pe_call G_is_whole (hr.mono (by decide)) (by rfl) T.g_is_whole T.F_is_whole.kp T.b_is_whole .nil pass0 (pa_cons (pv 0) pa_nil)) (pe_one (pe_chain op_le op_le (pv 1) (pv 0) (pv 2)))))), fun ds r h => ?_⟩
    obtain ⟨x, a, b, rfl, rfl⟩ := h
    show Sv K W0 _ [D.t (.int x), D.t (.int a), D.t (.int b)] _
    refine sv_ret (ev_andV (a := true) (ev_call (eva_t (ev_var rfl) eva_nil) (by walk_at "R_is_whole")) (fun _ => ev_chain (fun _ _ => rfl) (fun _ _ => rfl) (ev_var rfl) (ev_var rfl) (ev_var rfl)) (fun z => nomatch z)) ?_
    rfl
local macro_rules | `(tactic| walk_at "R_is_within") => `(tactic| exact ⟨_, _, _, rfl, rfl⟩)

theorem sc_products_of_images : FnScope ["table", "matrix"] ["table", "matrix"] (defScope s_products_of_images) := ⟨rfl, rfl, rfl, by decide +kernel, rfl, by decide +kernel, by decide +kernel⟩
def R_products_of_images : List D → D → Prop := fun ds r => ∃ (m q : Mat) (n k : Nat), ds = [.t (mat m), .t (mat q)] ∧ r = .t (mat (cong m q)) ∧ m.sm n ∧ q.sm k ∧ n ≤ 20000 ∧ k ≤ 20000
theorem ok_products_of_images (T : Txt K mg) : FnOk P w K mg base CX0 4 T.a_products_of_images T.fd_products_of_images ["table", "matrix"] (spD K R_products_of_images) := by
  refine fn_d T.F_products_of_images sc_products_of_images (fun ds r h => ?_) (fun cdv A outer s H E hr => ?_)
  · obtain ⟨m, q, n, k, rfl, _⟩ := h
    rfl
  · have hu := hr.units
    have G_matrix_product : FnOk P w K mg base CX0 3 T.a_matrix_product T.fd_matrix_product ["first", "second"] (spD K R_matrix_product) := ok_matrix_product T
    have G_transposed : FnOk P w K mg base CX0 1 T.a_transposed T.fd_transposed ["matrix"] (spD K R_transposed) := ok_transposed T
    refine ⟨_, (pss_one (ps_ret (pe_call G_matrix_product (hr.mono (by decide)) (by rfl) T.g_matrix_product T.F_matrix_product.kp T.b_matrix_product .nil pass0 (pa_cons (pe_call G_transposed (hr.mono (by decide)) (by rfl) T.g_transposed T.F_transposed.kp T.b_transposed .nil pass0 (pa_cons (pv 1) pa_nil)) (pa_cons (pe_call G_matrix_product (hr.mono (by decide)) (by rfl) T.g_matrix_product T.F_matrix_product.kp T.b_matrix_product .nil pass0 (pa_cons (pv 0) (pa_cons (pv 1) pa_nil))) pa_nil))))), fun ds r h => ?_⟩
    obtain ⟨m, q, n, k, rfl, rfl, hm, hk, hn, hn2⟩ := h
    show Sv K W0 _ [D.t (mat m), D.t (mat q)] _
    refine (sv_ret (ev_call (eva_t (ev_call (eva_t (ev_var rfl) eva_nil) (by walk_at "R_transposed")) (eva_t (ev_call (eva_t (ev_var rfl) (eva_t (ev_var rfl) eva_nil)) (by walk_at "R_matrix_product")) eva_nil)) (by walk_at "R_matrix_product")) ?_)
    rfl
local macro_rules | `(tactic| walk_at "R_products_of_images") => `(tactic| exact ⟨_, _, _, _, rfl, rfl, by walk_at "sm", by walk_at "sm", by first | decide | omega, by first | decide | omega⟩)

theorem sc_is_item : FnScope ["value"] ["value"] (defScope s_is_item) := ⟨rfl, rfl, rfl, by decide +kernel, rfl, by decide +kernel, by decide +kernel⟩
def R_is_item : List D → D → Prop := fun ds r => ∃ (x : Int), ds = [.t (.int x)] ∧ r = .t (.bl (okI x))
theorem ok_is_item (T : Txt K mg) : FnOk P w K mg base CX0 3 T.a_is_item T.fd_is_item ["value"] (spD K R_is_item) := by
  refine fn_d T.F_is_item sc_is_item (fun ds r h => ?_) (fun cdv A outer s H E hr => ?_)
  · obtain ⟨x, rfl, _⟩ := h
    rfl
  · have hu := hr.units
    have G_is_within : FnOk P w K mg base CX0 2 T.a_is_within T.fd_is_within ["value", "least", "greatest"] (spD K R_is_within) := ok_is_within T
    refine ⟨_, (pss_one (ps_ret (pe_call G_is_within (hr.mono (by decide)) (by rfl) T.g_is_within T.F_is_within.kp T.b_is_within .nil pass0 (pa_cons (pv 0) (pa_cons (pe_un un_neg (pe_glob (v := .int (1000)) (by rfl) T.c_GREATEST_ITEM ⟨_, rfl⟩)) (pa_cons (pe_glob (v := .int (1000)) (by rfl) T.c_GREATEST_ITEM ⟨_, rfl⟩) pa_nil)))))), fun ds r h => ?_⟩
    obtain ⟨x, rfl, rfl⟩ := h
    show Sv K W0 _ [D.t (.int x)] _
    refine sv_ret (ev_call (eva_t (ev_var rfl) (eva_t (ev_neg ev_int) (eva_t ev_int eva_nil))) (by walk_at "R_is_within")) rfl
local macro_rules | `(tactic| walk_at "R_is_item") => `(tactic| exact ⟨_, rfl, rfl⟩)
theorem sc_is_below_zero : FnScope ["table"] ["table"] (defScope s_is_below_zero) := ⟨rfl, rfl, rfl, by decide +kernel, rfl, by decide +kernel, by decide +kernel⟩
def R_is_below_zero : List D → D → Prop := fun ds r => ∃ (m : Mat) (n : Nat), ds = [.t (mat m)] ∧ r = .t (.bl (belowZ m)) ∧ m.sm n ∧ n ≤ 40000
theorem ok_is_below_zero (T : Txt K mg) : FnOk P w K mg base CX0 1 T.a_is_below_zero T.fd_is_below_zero ["table"] (spD K R_is_below_zero) := by
  refine fn_d T.F_is_below_zero sc_is_below_zero (fun ds r h => ?_) (fun cdv A outer s H E hr => ?_)
  · obtain ⟨m, n, rfl, _⟩ := h
    rfl
  · have hu := hr.units
    skip
    refine ⟨_, (pss_one (ps_ret (pe_and (pe_cmpR op_lt (pk_ixT K (pk_ixT K (pv 0) pe_int (fun _ _ => rfl)) pe_int (fun _ _ => rfl)) pe_int (nomark _)) (pe_one (pe_cmpR op_gt (pe_op op_sub (pe_op op_mulW (pk_ixT K (pk_ixT K (pv 0) pe_int (fun _ _ => rfl)) pe_int (fun _ _ => rfl)) (pk_ixT K (pk_ixT K (pv 0) pe_int (fun _ _ => rfl)) pe_int (fun _ _ => rfl))) (pe_op op_mulW (pk_ixT K (pk_ixT K (pv 0) pe_int (fun _ _ => rfl)) pe_int (fun _ _ => rfl)) (pk_ixT K (pk_ixT K (pv 0) pe_int (fun _ _ => rfl)) pe_int (fun _ _ => rfl)))) pe_int (nomark _)))))), fun ds r h => ?_⟩
    obtain ⟨m, n, rfl, rfl, hm, hn⟩ := h
    show Sv K W0 _ [D.t (mat m)] _
    refine (sv_ret (ev_and2 (ev_lt (ev_ixT (ev_ixT (ev_var rfl) ev_int (by rfl)) ev_int (by rfl)) ev_int) (ev_gt (ev_sub (ev_mul (ev_ixT (ev_ixT (ev_var rfl) ev_int (by rfl)) ev_int (by rfl)) (ev_ixT (ev_ixT (ev_var rfl) ev_int (by rfl)) ev_int (by rfl)) (by walk_at "smk")) (ev_mul (ev_ixT (ev_ixT (ev_var rfl) ev_int (by rfl)) ev_int (by rfl)) (ev_ixT (ev_ixT (ev_var rfl) ev_int (by rfl)) ev_int (by rfl)) (by walk_at "smk"))) ev_int)) ?_)
    rfl
local macro_rules | `(tactic| walk_at "R_is_below_zero") => `(tactic| exact ⟨_, _, rfl, rfl, by walk_at "sm", by first | decide | omega⟩)
theorem sc_check_form : FnScope ["table", "row", "item"] ["table"] (defScope s_check_form) := ⟨rfl, rfl, rfl, by decide +kernel, rfl, by decide +kernel, by decide +kernel⟩
def rowsL (m : Mat) : List (List T) := [[.int m.a.x, .int m.a.y, .int m.a.z], [.int m.b.x, .int m.b.y, .int m.b.z], [.int m.c.x, .int m.c.y, .int m.c.z]]
def itemT : T → T | .int x => .bl (okI x) | _ => .bl false
theorem rowsL_int {m : Mat} {xs : List T} {x : T} (h : xs ∈ rowsL m) (hx : x ∈ xs) : ∃ i : Int, x = .int i := by
  simp only [rowsL, List.mem_cons, List.not_mem_nil, or_false] at h
  rcases h with rfl | rfl | rfl <;> (simp only [List.mem_cons, List.not_mem_nil, or_false] at hx; rcases hx with rfl | rfl | rfl <;> exact ⟨_, rfl⟩)
def R_check_form (C : Addr) : List D → Rs → Prop := fun ds r => ∃ (m : Mat) (n : Nat), ds = [.t (mat m)] ∧ r = (if formOk m = true then .ok (.t .non) else .er C) ∧ m.sm n ∧ n ≤ 20000
theorem ok_check_form (T : Txt K mg) : FnOk P w K mg base (L2.CX P w) 4 T.a_check_form T.fd_check_form ["table"] (spX K (R_check_form T.C_BadForm)) := by
  refine fn_x T.F_check_form sc_check_form (fun ds r h => ?_) (fun cdv A outer s H E hr => ?_)
  · obtain ⟨m, n, rfl, _⟩ := h
    rfl
  · have hu := hr.units
    have G_is_item : FnOk P w K mg base CX0 3 T.a_is_item T.fd_is_item ["value"] (spD K R_is_item) := ok_is_item T
    have G_transposed : FnOk P w K mg base CX0 1 T.a_transposed T.fd_transposed ["matrix"] (spD K R_transposed) := ok_transposed T
    have G_determinant_of : FnOk P w K mg base CX0 2 T.a_determinant_of T.fd_determinant_of ["matrix"] (spD K R_determinant_of) := ok_determinant_of T
    have G_is_below_zero : FnOk P w K mg base CX0 1 T.a_is_below_zero T.fd_is_below_zero ["table"] (spD K R_is_below_zero) := ok_is_below_zero T
    refine ⟨_, (pss_cons (ps_if (pt_not (pt_val (pe_callB (ck_all K rfl) (by rfl) T.z_all (by decide +kernel) (pa_cons (pe_lc2 (own := [("row", 1), ("item", 2)]) (vs1 := [2]) (g := (gName 1)) (g1 := (gName 2)) rfl sc_check_form.nd (pki_tup K (pv 0)) (blkOk_by (own := [("row", 1), ("item", 2)]) (N := ["table", "row", "item"]) (sc := defScope s_check_form) (by decide +kernel)) (by decide) (fun _ _ _ _ _ => (pg_name (i := 1) sc_check_form.nd rfl (by first | exact Or.inl rfl | exact Or.inr rfl))) (fun _ _ _ _ _ => pts_nil) (fun _ _ _ _ _ => (pki_tup K (pv 1))) (fun _ _ _ _ _ => (pg_name (i := 2) sc_check_form.nd rfl (by first | exact Or.inl rfl | exact Or.inr rfl))) (fun _ _ _ _ _ => pts_nil) (fun _ _ _ _ _ => (pe_call G_is_item (hr.mono (by decide)) (by rfl) T.g_is_item T.F_is_item.kp T.b_is_item .nil pass0 (pa_cons (pv 2) pa_nil)))) pa_nil)))) (pss_one (ps_raise rfl (takes_of rfl rfl rfl rfl) (pmk_own PySem.F.excBase_ValueError T.x_BadForm T.g_BadForm T.k_BadForm (raises_own T.b_BadForm T.t_BadForm) rfl))) pss_nil)
    (pss_cons (ps_if (pt_cmpR (opk_neD K hu) (pv 0) (pe_call G_transposed (hr.mono (by decide)) (by rfl) T.g_transposed T.F_transposed.kp T.b_transposed .nil pass0 (pa_cons (pv 0) pa_nil)) (nomark _)) (pss_one (ps_raise rfl (takes_of rfl rfl rfl rfl) (pmk_own PySem.F.excBase_ValueError T.x_BadForm T.g_BadForm T.k_BadForm (raises_own T.b_BadForm T.t_BadForm) rfl))) pss_nil)
    (pss_cons (ps_if (pt_not (pt_chain op_le op_le (pe_glob (v := .int (-500)) (by rfl) T.c_LEAST_DETERMINANT ⟨_, rfl⟩) (pe_call G_determinant_of (hr.mono (by decide)) (by rfl) T.g_determinant_of T.F_determinant_of.kp T.b_determinant_of .nil pass0 (pa_cons (pv 0) pa_nil)) (pe_un un_neg pe_int))) (pss_one (ps_raise rfl (takes_of rfl rfl rfl rfl) (pmk_own PySem.F.excBase_ValueError T.x_BadForm T.g_BadForm T.k_BadForm (raises_own T.b_BadForm T.t_BadForm) rfl))) pss_nil)
    (pss_one (ps_if (pt_val (pe_call G_is_below_zero (hr.mono (by decide)) (by rfl) T.g_is_below_zero T.F_is_below_zero.kp T.b_is_below_zero .nil pass0 (pa_cons (pv 0) pa_nil))) (pss_one (ps_raise rfl (takes_of rfl rfl rfl rfl) (pmk_own PySem.F.excBase_ValueError T.x_BadForm T.g_BadForm T.k_BadForm (raises_own T.b_BadForm T.t_BadForm) rfl))) pss_nil))))), fun ds r h => ?_⟩
    obtain ⟨m, n, rfl, hr, hm, hn⟩ := h
    show Sv K _ _ [D.t (mat m), D.no, D.no] _
    have no : ∀ b, (formOk m = true → b = true) → b = false → r = .er T.C_BadForm := fun b h1 h2 => by
      rw [hr, if_neg fun z => by rw [h1 z] at h2; cases h2]
    refine sv_seq (fun G => G = [D.t (mat m), D.no, D.no] ∧ itemsOk m = true) (sv_if (evb_not (evb_val (ev_all (itemsB m) (evl_f (evf_eq (evf_lc2T (xss := rowsL m) itemT (ev_var rfl) (by show 9 < 1000; decide) (by decide) (lt_ok rfl) (fun xs x hxs hx => ?_)) rfl))))) (fun h => (sv_raise ?_)) (fun h => (sv_next ⟨rfl, bnt h⟩))) ?_
    · obtain ⟨i, rfl⟩ := rowsL_int hxs hx
      exact ev_call (eva_t (ev_var rfl) eva_nil) (by walk_at "R_is_item")
    · exact no (itemsOk m) formOk_items (bnf h)
    rintro G ⟨rfl, hi⟩
    refine sv_seq (fun G => G = [D.t (mat m), D.no, D.no] ∧ m = m.tr) (sv_if (evb_test (ev_neM (ev_var rfl) (ev_call (eva_t (ev_var rfl) eva_nil) (by walk_at "R_transposed")))) (fun h => (sv_raise ?_)) (fun h => (sv_next ⟨rfl, by simpa using h⟩))) ?_
    · exact no (decide (m = m.tr)) (fun z => decide_eq_true (formOk_sym z)) (by simpa using h)
    rintro G ⟨rfl, hs⟩
    refine sv_seq (fun G => G = [D.t (mat m), D.no, D.no] ∧ (-500 ≤ det m ∧ det m ≤ -1)) (sv_if (evb_not (evb_test (ev_chain (fun _ _ => rfl) (fun _ _ => rfl) ev_int (ev_call (eva_t (ev_var rfl) eva_nil) (by walk_at "R_determinant_of")) (ev_neg ev_int)))) (fun h => (sv_raise ?_)) (fun h => (sv_next ⟨rfl, by simpa using h⟩))) ?_
    · exact no (decide (-500 ≤ det m) && decide (det m ≤ -1)) (fun z => by simpa using formOk_det z) (bnf h)
    rintro G ⟨rfl, hd⟩
    refine sv_if (evb_val (ev_call (eva_t (ev_var rfl) eva_nil) (by walk_at "R_is_below_zero"))) (fun h => (sv_raise ?_)) (fun h => (sv_next ?_))
    · exact no (!belowZ m) (fun z => by rw [formOk_bz z]; rfl) (by rw [h]; rfl)
    · show r = .ok (.t .non)
      rw [hr, if_pos (formOk_of hi hs hd h)]
theorem sc_last_of : FnScope ["table", "determinant", "common", "row", "item"] ["table"] (defScope s_last_of) := ⟨rfl, rfl, rfl, by decide +kernel, rfl, by decide +kernel, by decide +kernel⟩
def R_last_of : List D → D → Prop := fun ds r => ∃ (m : Mat), ds = [.t (mat m)] ∧ r = .t (.int (lastM m)) ∧ m.sm 20 ∧ det m ≠ 0
theorem ok_last_of (T : Txt K mg) : FnOk P w K mg base CX0 3 T.a_last_of T.fd_last_of ["table"] (spD K R_last_of) := by
  refine fn_d T.F_last_of sc_last_of (fun ds r h => ?_) (fun cdv A outer s H E hr => ?_)
  · obtain ⟨m, rfl, _⟩ := h
    rfl
  · have hu := hr.units
    have G_determinant_of : FnOk P w K mg base CX0 2 T.a_determinant_of T.fd_determinant_of ["matrix"] (spD K R_determinant_of) := ok_determinant_of T
    have G_adjugate_of : FnOk P w K mg base CX0 2 T.a_adjugate_of T.fd_adjugate_of ["matrix"] (spD K R_adjugate_of) := ok_adjugate_of T
    refine ⟨_, (pss_cons (ps_set (i := 1) sc_last_of.nd rfl (by first | exact Or.inl rfl | exact Or.inr rfl) (pe_callB call_abs (by rfl) T.z_abs (by decide +kernel) (pa_cons (pe_call G_determinant_of (hr.mono (by decide)) (by rfl) T.g_determinant_of T.F_determinant_of.kp T.b_determinant_of .nil pass0 (pa_cons (pv 0) pa_nil)) pa_nil)))
    (pss_cons (ps_set (i := 2) sc_last_of.nd rfl (by first | exact Or.inl rfl | exact Or.inr rfl) (pv 1))
    (pss_cons (ps_for PassesOwn.never rfl (pki_tup K (pe_call G_adjugate_of (hr.mono (by decide)) (by rfl) T.g_adjugate_of T.F_adjugate_of.kp T.b_adjugate_of .nil pass0 (pa_cons (pv 0) pa_nil))) (pg_name (i := 3) sc_last_of.nd rfl (by first | exact Or.inl rfl | exact Or.inr rfl)) (pss_one (ps_for PassesOwn.never rfl (pki_tup K (pv 3)) (pg_name (i := 4) sc_last_of.nd rfl (by first | exact Or.inl rfl | exact Or.inr rfl)) (pss_one (ps_set (i := 2) sc_last_of.nd rfl (by first | exact Or.inl rfl | exact Or.inr rfl) (pe_callBfun cr_gcd (by rfl) T.z_gcd (pa_cons (pv 2) (pa_cons (pv 4) pa_nil))))))))
    (pss_one (ps_ret (pe_op op_fdivW (pv 1) (pv 2))))))), fun ds r h => ?_⟩
    obtain ⟨m, rfl, rfl, hm, hd⟩ := h
    show Sv K W0 _ [D.t (mat m), D.no, D.no, D.no, D.no] _
    have hdm : Sm 64 (if det m < 0 then -det m else det m) := Sm.abs ((sm_det hm).mono (by decide))
    obtain ⟨g, hg⟩ : ∃ g : Int → Int → Int, g = gI := ⟨_, rfl⟩
    have ev_g : ∀ {Γ : List D} {ta tb : TE} {a b : Int}, Ev K ta Γ (.int a) → Ev K tb Γ (.int b) → Ev K (tCB rGcd (tCons ta (tCons tb tNil))) Γ (.int (g a b)) := fun h1 h2 => by
      rw [hg]
      exact ev_gcd h1 h2
    have e : lastM m = (if det m < 0 then -det m else det m) / cmnG g (cmnG g (cmnG g (if det m < 0 then -det m else det m) (adj m).a) (adj m).b) (adj m).c := by
      rw [hg]
      rfl
    have hdiv : CDivW (if det m < 0 then -det m else det m) (cmnG g (cmnG g (cmnG g (if det m < 0 then -det m else det m) (adj m).a) (adj m).b) (adj m).c) := by
      rw [hg]
      exact divok (cmnM_pos hd) (smle hdm (cmnM_nn m) (cmnM_le hd)) (by decide)
    rw [e]
    have hA : (adj m).sm 64 := (sm_adj hm).mono (by decide)
    refine sv_then [D.t (mat m), D.t (.int (if det m < 0 then -det m else det m)), D.no, D.no, D.no] (sv_set (ev_abs (ev_call (eva_t (ev_var rfl) eva_nil) (by walk_at "R_determinant_of"))) rfl) ?_
    clear hg e
    generalize (if det m < 0 then -det m else det m) = d at *
    refine (sv_then _ (sv_set (ev_var rfl) rfl) (sv_seq (fun G => ∃ a b, G = [D.t (mat m), D.t (.int d), D.t (.int (cmnG g (cmnG g (cmnG g d (adj m).a) (adj m).b) (adj m).c)), a, b]) (sv_forT3 (x1 := row (adj m).a) (x2 := row (adj m).b) (x3 := row (adj m).c) (ev_call (eva_t (ev_var rfl) eva_nil) (by walk_at "R_adjugate_of"))
      (G1 := [D.t (mat m), D.t (.int d), D.t (.int (cmnG g d (adj m).a)), D.t (row (adj m).a), D.t (.int (adj m).a.z)])
      (G2 := [D.t (mat m), D.t (.int d), D.t (.int (cmnG g (cmnG g d (adj m).a) (adj m).b)), D.t (row (adj m).b), D.t (.int (adj m).b.z)])
      (G3 := [D.t (mat m), D.t (.int d), D.t (.int (cmnG g (cmnG g (cmnG g d (adj m).a) (adj m).b) (adj m).c)), D.t (row (adj m).c), D.t (.int (adj m).c.z)])
      (gd_name _ _) (sv_forT3 (ev_var rfl) (gd_name _ _) (sv_set (ev_g (ev_var rfl) (ev_var rfl)) rfl) (gd_name _ _) (sv_set (ev_g (ev_var rfl) (ev_var rfl)) rfl) (gd_name _ _) (sv_set (ev_g (ev_var rfl) (ev_var rfl)) rfl) rfl)
      (gd_name _ _) (sv_forT3 (ev_var rfl) (gd_name _ _) (sv_set (ev_g (ev_var rfl) (ev_var rfl)) rfl) (gd_name _ _) (sv_set (ev_g (ev_var rfl) (ev_var rfl)) rfl) (gd_name _ _) (sv_set (ev_g (ev_var rfl) (ev_var rfl)) rfl) rfl)
      (gd_name _ _) (sv_forT3 (ev_var rfl) (gd_name _ _) (sv_set (ev_g (ev_var rfl) (ev_var rfl)) rfl) (gd_name _ _) (sv_set (ev_g (ev_var rfl) (ev_var rfl)) rfl) (gd_name _ _) (sv_set (ev_g (ev_var rfl) (ev_var rfl)) rfl) rfl) ⟨_, _, rfl⟩) ?_))
    rintro G ⟨a, b, rfl⟩
    exact sv_ret (ev_fdivW (ev_var rfl) (ev_var rfl) hdiv) rfl
theorem sc_Form__init_ : FnScope ["self", "table"] ["self", "table"] (defScope s_Form__init_) := ⟨rfl, rfl, rfl, by decide +kernel, rfl, by decide +kernel, by decide +kernel⟩
def formT (C : Addr) (m : Mat) : T := .obj C ["table", "determinant", "last"] [mat m, .int (det m), .int (lastM m)]
def R_Form__init_ (C Ce : Addr) : List D → Rs → Prop := fun ds r => ∃ (m : Mat) (n : Nat), ds = [.t (mat m)] ∧ r = (if formOk m = true then .ok (.t (formT C m)) else .er Ce) ∧ m.sm n ∧ n ≤ 20000
theorem ok_Form__init_ (T : Txt K mg) : FnOk P w K mg base (L2.CX P w) 5 T.a_Form__init_ T.fd_Form__init_ ["self", "table"] (spI K T.C_Form (R_Form__init_ T.C_Form T.C_BadForm)) := by
  refine fn_i T.F_Form__init_ sc_Form__init_ (fun ds r h => ?_) (fun ds r h xs hm => ?_) (fun cdv A outer s H E hr => ?_)
  · obtain ⟨m, n, rfl, _⟩ := h
    rfl
  · obtain ⟨m, n, rfl, _⟩ := h
    simp at hm
  · have hu := hr.units
    have G_check_form : FnOk P w K mg base (L2.CX P w) 4 T.a_check_form T.fd_check_form ["table"] (spX K (R_check_form T.C_BadForm)) := ok_check_form T
    have G_determinant_of : FnOk P w K mg base CX0 2 T.a_determinant_of T.fd_determinant_of ["matrix"] (spD K R_determinant_of) := ok_determinant_of T
    have G_last_of : FnOk P w K mg base CX0 3 T.a_last_of T.fd_last_of ["table"] (spD K R_last_of) := ok_last_of T
    refine ⟨_, (pss_cons (ps_expr (pe_call G_check_form (hr.mono (by decide)) (by rfl) T.g_check_form T.F_check_form.kp T.b_check_form .nil (passes_call (takes_of rfl rfl rfl rfl) (fun _ _ _ _ h => h)) (pa_cons (pv 1) pa_nil)))
    (pss_cons (ps_fld (pv 0) (pv 1) rfl)
    (pss_cons (ps_fld (pv 0) (pe_call G_determinant_of (hr.mono (by decide)) (by rfl) T.g_determinant_of T.F_determinant_of.kp T.b_determinant_of .nil pass0 (pa_cons (pv 1) pa_nil)) rfl)
    (pss_one (ps_fld (pv 0) (pe_call G_last_of (hr.mono (by decide)) (by rfl) T.g_last_of T.F_last_of.kp T.b_last_of .nil pass0 (pa_cons (pv 1) pa_nil)) rfl))))), fun ds r x dx σ H D hR I hok her => ?_⟩
    obtain ⟨m, n, rfl, hr, hm, hn⟩ := hR
    by_cases h : formOk m = true
    · have h20 : m.sm 20 := (items_sm (formOk_items h)).mono (by decide)
      have hd : det m ≠ 0 := by
        have := formOk_det h
        omega
      rw [if_pos h] at hr
      exact i_do I (ev_callX (eva_t (ev_var rfl) eva_nil) (by exact ⟨_, _, rfl, (if_pos h).symm, hm, hn⟩)) fun H1 I1 =>
        i_fldV I1 rfl T.c_Form T.n_Form_table rfl (by decide) fun H2 I2 =>
        i_fld I2 (ev_call (eva_t (ev_var rfl) eva_nil) (by walk_at "R_determinant_of")) rfl T.c_Form T.n_Form_determinant (by decide +kernel) (by decide) fun H3 I3 =>
        i_fld I3 (ev_call (eva_t (ev_var rfl) eva_nil) (by exact ⟨_, rfl, rfl, h20, hd⟩)) rfl T.c_Form T.n_Form_last (by decide +kernel) (by decide) fun H4 I4 =>
        hok H4 _ _ hr I4
    · rw [if_neg h] at hr
      exact i_doE I (eve_callX (eva_t (ev_var rfl) eva_nil) (by exact ⟨_, _, rfl, (if_neg h).symm, hm, hn⟩)) fun H1 I1 => her H1 _ _ _ hr I1
theorem sc_Form_product : FnScope ["self", "v", "w"] ["self", "v", "w"] (defScope s_Form_product) := ⟨rfl, rfl, rfl, by decide +kernel, rfl, by decide +kernel, by decide +kernel⟩
def R_Form_product (C : Addr) : List D → D → Prop := fun ds r => ∃ (m : Mat) (v u : Row) (n k : Nat), ds = [.t (formT C m), .t (row v), .t (row u)] ∧ r = .t (.int (dot v (image m u))) ∧ m.sm 20 ∧ v.sm n ∧ u.sm k ∧ n ≤ 20000 ∧ k ≤ 20000
theorem ok_Form_product (T : Txt K mg) : FnOk P w K mg base CX0 3 T.a_Form_product T.fd_Form_product ["self", "v", "w"] (spD K (R_Form_product T.C_Form)) := by
  refine fn_d T.F_Form_product sc_Form_product (fun ds r h => ?_) (fun cdv A outer s H E hr => ?_)
  · obtain ⟨m, v, u, n, k, rfl, _⟩ := h
    rfl
  · have hu := hr.units
    have G_dot : FnOk P w K mg base CX0 1 T.a_dot T.fd_dot ["first", "second"] (spD K R_dot) := ok_dot T
    have G_image : FnOk P w K mg base CX0 2 T.a_image T.fd_image ["matrix", "row"] (spD K R_image) := ok_image T
    refine ⟨_, (pss_one (ps_ret (pe_call G_dot (hr.mono (by decide)) (by rfl) T.g_dot T.F_dot.kp T.b_dot .nil pass0 (pa_cons (pv 1) (pa_cons (pe_call G_image (hr.mono (by decide)) (by rfl) T.g_image T.F_image.kp T.b_image .nil pass0 (pa_cons (pk_fld K (pv 0) rfl) (pa_cons (pv 2) pa_nil))) pa_nil))))), fun ds r h => ?_⟩
    obtain ⟨m, v, u, n, k, rfl, rfl, hm, hv, hu, hn, hk⟩ := h
    show Sv K W0 _ [D.t (formT T.C_Form m), D.t (row v), D.t (row u)] _
    refine (sv_ret (ev_call (eva_t (ev_var rfl) (eva_t (ev_call (eva_t (ev_fld 0 (ev_var rfl) T.c_Form T.n_Form_table rfl (by decide +kernel) rfl) (eva_t (ev_var rfl) eva_nil)) (by walk_at "R_image")) eva_nil)) (by walk_at "R_dot")) ?_)
    rfl
local macro_rules | `(tactic| walk_at "R_Form_product") => `(tactic| exact ⟨_, _, _, _, _, rfl, rfl, by walk_at "sm", by walk_at "sm", by walk_at "sm", by first | decide | omega, by first | decide | omega⟩)


theorem sc_Form_moved : FnScope ["self", "matrix"] ["self", "matrix"] (defScope s_Form_moved) := ⟨rfl, rfl, rfl, by decide +kernel, rfl, by decide +kernel, by decide +kernel⟩
def R_Form_moved (C CB CM : Addr) : List D → Rs → Prop := fun ds r => ∃ (m q : Mat) (n : Nat), ds = [.t (formT C m), .t (mat q)] ∧ r = (if uni q = true then (if formOk (cong m q) = true then .ok (.t (formT C (cong m q))) else .er CB) else .er CM) ∧ m.sm 20 ∧ q.sm n ∧ n ≤ 5000
theorem ok_Form_moved (T : Txt K mg) : FnOk P w K mg base (L2.CX P w) 7 T.a_Form_moved T.fd_Form_moved ["self", "matrix"] (spX K (R_Form_moved T.C_Form T.C_BadForm T.C_BadMatrix)) := by
  refine fn_x T.F_Form_moved sc_Form_moved (fun ds r h => ?_) (fun cdv A outer s H E hr => ?_)
  · obtain ⟨m, q, n, rfl, _⟩ := h
    rfl
  · have hu := hr.units
    have G_has_inverse : FnOk P w K mg base CX0 3 T.a_has_inverse T.fd_has_inverse ["matrix"] (spD K R_has_inverse) := ok_has_inverse T
    have G_Form__init_ : FnOk P w K mg base (L2.CX P w) 5 T.a_Form__init_ T.fd_Form__init_ ["self", "table"] (spI K T.C_Form (R_Form__init_ T.C_Form T.C_BadForm)) := ok_Form__init_ T
    have G_products_of_images : FnOk P w K mg base CX0 4 T.a_products_of_images T.fd_products_of_images ["table", "matrix"] (spD K R_products_of_images) := ok_products_of_images T
    refine ⟨_, (pss_cons (ps_if (pt_not (pt_val (pe_call G_has_inverse (hr.mono (by decide)) (by rfl) T.g_has_inverse T.F_has_inverse.kp T.b_has_inverse .nil pass0 (pa_cons (pv 1) pa_nil)))) (pss_one (ps_raise rfl (takes_of rfl rfl rfl rfl) (pmk_own PySem.F.excBase_ValueError T.x_BadMatrix T.g_BadMatrix T.k_BadMatrix (raises_own T.b_BadMatrix T.t_BadMatrix) rfl))) pss_nil)
    (pss_one (ps_ret (pe_make T.M_Form G_Form__init_ (hr.mono (by decide)) (by rfl) T.g_Form T.b_Form__init_ .nil (passes_call (takes_of rfl rfl rfl rfl) (fun _ _ _ _ h => h)) (pa_cons (pe_call G_products_of_images (hr.mono (by decide)) (by rfl) T.g_products_of_images T.F_products_of_images.kp T.b_products_of_images .nil pass0 (pa_cons (pk_fld K (pv 0) rfl) (pa_cons (pv 1) pa_nil))) pa_nil))))), fun ds r h => ?_⟩
    obtain ⟨m, q, n, rfl, hr, hm, hq, hn⟩ := h
    show Sv K _ _ [D.t (formT T.C_Form m), D.t (mat q)] _
    refine sv_seq (fun G => G = [D.t (formT T.C_Form m), D.t (mat q)] ∧ uni q = true) (sv_if (evb_not (evb_val (ev_call (eva_t (ev_var rfl) eva_nil) (by walk_at "R_has_inverse")))) (fun h => (sv_raise ?_)) (fun h => (sv_next ⟨rfl, bnt h⟩))) ?_
    · show r = .er T.C_BadMatrix
      rw [hr, if_neg (by rw [bnf h]; exact fun z => by cases z)]
    rintro G ⟨rfl, hi⟩
    rw [if_pos hi] at hr
    have hc : (cong m q).sm (2 * n + 40) := (sm_mul (sm_tr hq) (sm_mul hm hq)).mono (by omega)
    by_cases h : formOk (cong m q) = true
    · rw [if_pos h] at hr
      exact sv_ret (ev_make (ns := ["table", "determinant", "last"]) (ts := [mat (cong m q), .int (det (cong m q)), .int (lastM (cong m q))]) (eva_t (ev_call (eva_t (ev_fld 0 (ev_var rfl) T.c_Form T.n_Form_table rfl (by decide +kernel) rfl) (eva_t (ev_var rfl) eva_nil)) (by walk_at "R_products_of_images")) eva_nil) (by exact ⟨_, _, rfl, (if_pos h).symm, hc, by omega⟩)) hr
    · rw [if_neg h] at hr
      exact sv_retE (eve_make (fun _ _ z => z) (eva_t (ev_call (eva_t (ev_fld 0 (ev_var rfl) T.c_Form T.n_Form_table rfl (by decide +kernel) rfl) (eva_t (ev_var rfl) eva_nil)) (by walk_at "R_products_of_images")) eva_nil) (by exact ⟨_, _, rfl, (if_neg h).symm, hc, by omega⟩)) hr


theorem sc_law_draws : FnScope ["script", "many", "draws", "seed", "cell", "number", "k"] ["script", "many"] (defScope s_law_draws) := ⟨rfl, rfl, rfl, by decide +kernel, rfl, by decide +kernel, by decide +kernel⟩
def R_law_draws : List D → D → Prop := fun ds r => ∃ (ns : List Int) (many : Nat), ds = [.l (intsT ns), .t (.int many)] ∧ r = .l (intsT (drawsM ns many)) ∧ many ≤ 1000
theorem ok_law_draws (T : Txt K mg) : FnOk P w K mg base CX0 1 T.a_law_draws T.fd_law_draws ["script", "many"] (spD K R_law_draws) := by
  refine fn_d T.F_law_draws sc_law_draws (fun ds r h => ?_) (fun cdv A outer s H E hr => ?_)
  · obtain ⟨ns, many, rfl, _⟩ := h
    rfl
  · have hu := hr.units
    refine ⟨_, (pss_cons (ps_set (i := 2) sc_law_draws.nd rfl (by first | exact Or.inl rfl | exact Or.inr rfl) (pe_lst pa_nil))
    (pss_cons (ps_set (i := 3) sc_law_draws.nd rfl (by first | exact Or.inl rfl | exact Or.inr rfl) pe_int)
    (pss_cons (ps_for PassesOwn.never rfl (pki_list K (pk_slL K (pv 0) po_none (po_some pe_int))) (pg_name (i := 4) sc_law_draws.nd rfl (by first | exact Or.inl rfl | exact Or.inr rfl)) (pss_cons (ps_set (i := 5) sc_law_draws.nd rfl (by first | exact Or.inl rfl | exact Or.inr rfl) (pe_callB call_abs (by rfl) T.z_abs (by decide +kernel) (pa_cons (pv 4) pa_nil)))
    (pss_cons (ps_set (i := 3) sc_law_draws.nd rfl (by first | exact Or.inl rfl | exact Or.inr rfl) (pe_op op_mod (pe_callTy call_int1 (by rfl) T.z_int (by decide +kernel) (pa_cons (pe_op op_add (pe_op op_add (pe_op op_mulW (pv 3) pe_int) (pv 5)) pe_int) pa_nil)) pe_int))
    (pss_one (ps_if (pt_cmpR op_ge (pv 5) (pe_op op_pow pe_int pe_int) (nomark _)) (pss_one (ps_for PassesOwn.never rfl (pi_range1 (by rfl) T.z_range (pa_cons pe_int pa_nil)) (pg_name (i := 6) sc_law_draws.nd rfl (by first | exact Or.inl rfl | exact Or.inr rfl)) (pss_one (ps_if (pt_cmpR op_gt (pv 5) pe_int (nomark _)) (pss_cons (ps_expr (pe_bm PySem.F.plainAttrs_list PySem.F.slot_list_append PySem.F.type_list_append mt_append (pv 2) (pa_cons (pe_op op_mod (pe_callTy call_int1 (by rfl) T.z_int (by decide +kernel) (pa_cons (pv 5) pa_nil)) pe_int) pa_nil)))
    (pss_one (ps_set (i := 5) sc_law_draws.nd rfl (by first | exact Or.inl rfl | exact Or.inr rfl) (pe_op op_fdiv (pv 5) pe_int)))) pss_nil)))) (pss_one (ps_expr (pe_bm PySem.F.plainAttrs_list PySem.F.slot_list_append PySem.F.type_list_append mt_append (pv 2) (pa_cons (pe_op op_mod (pe_op op_fdiv (pe_callTy call_int1 (by rfl) T.z_int (by decide +kernel) (pa_cons (pe_op op_add (pe_op op_mulW (pv 3) pe_int) pe_int) pa_nil)) pe_int) pe_int) pa_nil)))))))))
    (pss_cons (ps_for PassesOwn.never rfl (pi_range1 (by rfl) T.z_range (pa_cons (pv 1) pa_nil)) (pg_name (i := 6) sc_law_draws.nd rfl (by first | exact Or.inl rfl | exact Or.inr rfl)) (pss_one (ps_if (pt_cmpR op_lt (pe_callB (ck_len K) (by rfl) T.z_len PySem.boot_len (pa_cons (pv 2) pa_nil)) (pv 1) (nomark _)) (pss_cons (ps_set (i := 3) sc_law_draws.nd rfl (by first | exact Or.inl rfl | exact Or.inr rfl) (pe_op op_mod (pe_callTy call_int1 (by rfl) T.z_int (by decide +kernel) (pa_cons (pe_op op_add (pe_op op_add (pe_op op_mulW (pv 3) pe_int) (pv 6)) pe_int) pa_nil)) pe_int))
    (pss_one (ps_expr (pe_bm PySem.F.plainAttrs_list PySem.F.slot_list_append PySem.F.type_list_append mt_append (pv 2) (pa_cons (pe_op op_mod (pe_op op_fdiv (pe_callTy call_int1 (by rfl) T.z_int (by decide +kernel) (pa_cons (pv 3) pa_nil)) pe_int) pe_int) pa_nil))))) pss_nil)))
    (pss_one (ps_ret (pk_slL K (pv 2) po_none (po_some (pv 1))))))))), fun ds r h => ?_⟩
    obtain ⟨ns, many, rfl, rfl, hm⟩ := h
    show Sv K W0 _ [D.l (intsT ns), D.t (.int many), D.no, D.no, D.no, D.no, D.no] _
    refine sv_then _ (sv_setF (evf_lsts evt_nil (le_ok rfl)) rfl) (sv_then _ (sv_set ev_int rfl) ?_)
    refine sv_seq (fun G => ∃ a b c, G = [D.l (intsT ns), D.t (.int many), D.own (intsT (draws1 (ns.take 63)).2), D.t (.int (draws1 (ns.take 63)).1), a, b, c]) ?_ ?_
    · refine sv_forF (xs := intsT (ns.take 63)) (fun i G => ∃ a b c, G = [D.l (intsT ns), D.t (.int many), D.own (intsT (draws1 ((ns.take 63).take i)).2), D.t (.int (draws1 ((ns.take 63).take i)).1), a, b, c]) (evf_eq (evf_slice (evl_v (by rfl)) evo_none (evo_some ev_int)) (cut_to _ 63)) ⟨_, _, _, rfl⟩ ?_ ?_
      · rintro i x G hx ⟨a, b, c, rfl⟩
        obtain ⟨n, hn, rfl⟩ := intsT_at' hx
        have hi : i < 63 := by
          have := (List.getElem?_eq_some_iff.mp hn).1
          rw [List.length_take] at this
          omega
        have e : draws1 ((ns.take 63).take (i + 1)) = drawStep (draws1 ((ns.take 63).take i)) n := by
          unfold draws1
          rw [take_snoc hn, List.foldl_append]
          rfl
        rw [e]
        have hsm : Sm 32 (draws1 ((ns.take 63).take i)).1 := draws_sm _ _ (by decide)
        have hlen : (draws1 ((ns.take 63).take i)).2.length ≤ 0 + 60 * ((ns.take 63).take i).length := draws_len _ _
        rw [List.length_take, List.length_take] at hlen
        generalize draws1 ((ns.take 63).take i) = st at *
        refine ⟨_, gd_name 4 _, ?_⟩
        refine sv_then _ (sv_set (ev_abs (ev_var rfl)) rfl) (sv_then _ (sv_set (ev_mod (ev_int1 (ev_add (ev_add (ev_mul (ev_var rfl) ev_int (by walk_at "smk")) (ev_var rfl)) ev_int)) ev_int (by decide)) rfl) ?_)
        show Sv K W0 _ [D.l (intsT ns), D.t (.int many), D.own (intsT st.2), D.t (.int (seed1 st.1 (absI n))), D.t (.int n), D.t (.int (absI n)), c] _
        refine sv_if (evb_test (ev_ge (ev_var rfl) (ev_pow ev_int ev_int ⟨by decide, by decide, by decide⟩))) (fun h => ?_) (fun h => ?_)
        · have h' : 1000000000000000000 ≤ absI n := of_decide_eq_true h
          have ed : drawStep st n = (seed1 st.1 (absI n), (itr innerStep 60 (absI n, st.2)).2) := if_pos h'
          rw [ed]
          refine sv_range1 (n := 60) (fun k G => ∃ c, G = [D.l (intsT ns), D.t (.int many), D.own (intsT (itr innerStep k (absI n, st.2)).2), D.t (.int (seed1 st.1 (absI n))), D.t (.int n), D.t (.int (itr innerStep k (absI n, st.2)).1), c]) ev_int (by decide) ⟨_, rfl⟩ ?_ ?_
          · rintro k G hk ⟨c, rfl⟩
            have hl2 := inner_len k (absI n, st.2)
            refine ⟨_, gd_name 6 _, ?_⟩
            have hk60 : k < 60 := hk
            show Sv K W0 _ [D.l (intsT ns), D.t (.int many), D.own (intsT (itr innerStep k (absI n, st.2)).2), D.t (.int (seed1 st.1 (absI n))), D.t (.int n), D.t (.int (itr innerStep k (absI n, st.2)).1), D.t (.int (k : Int))] { toRet _ with nx := fun G => ∃ c, G = [D.l (intsT ns), D.t (.int many), D.own (intsT (innerStep k (itr innerStep k (absI n, st.2))).2), D.t (.int (seed1 st.1 (absI n))), D.t (.int n), D.t (.int (innerStep k (itr innerStep k (absI n, st.2))).1), c], ct := _, bk := _ }
            simp only at hl2
            generalize itr innerStep k (absI n, st.2) = s2 at *
            refine sv_if (evb_test (ev_gt (ev_var rfl) ev_int)) (fun h2 => ?_) (fun h2 => ?_)
            · have e2 : innerStep k s2 = (s2.1 / 1009, s2.2 ++ [s2.1 % 1009]) := if_pos (of_decide_eq_true h2)
              rw [e2]
              refine sv_then _ (sv_append rfl (ev_mod (ev_int1 (ev_var rfl)) ev_int (by decide)) (by rw [intsT_len]; omega) rfl) (sv_set (ev_fdiv (ev_var rfl) ev_int ⟨by decide, by decide⟩) ⟨D.t (.int (k : Int)), ?_⟩)
              rw [intsT_snoc]
              rfl
            · have e2 : innerStep k s2 = s2 := if_neg (of_decide_eq_false h2)
              rw [e2]
              exact sv_next ⟨_, rfl⟩
          · rintro G ⟨c, rfl⟩
            exact ⟨_, _, _, rfl⟩
        · have h' : ¬ 1000000000000000000 ≤ absI n := of_decide_eq_false h
          have ed : drawStep st n = (seed1 st.1 (absI n), st.2 ++ [(seed1 st.1 (absI n) * 16807 + 5) / 3 % 65521]) := if_neg h'
          rw [ed]
          have h32 := seed1_sm st.1 (absI n)
          refine sv_append rfl (ev_mod (ev_fdiv (ev_int1 (ev_add (ev_mul (ev_var rfl) ev_int (by walk_at "smk")) ev_int)) ev_int ⟨by decide, by decide⟩) ev_int (by decide)) (by rw [intsT_len]; omega) ⟨D.t (.int n), D.t (.int (absI n)), c, ?_⟩
          rw [intsT_snoc]
          rfl
      · rintro G ⟨a, b, c, rfl⟩
        rw [intsT_len, List.take_length]
        exact ⟨_, _, _, rfl⟩
    · rintro G ⟨a, b, c, rfl⟩
      have hsm1 : Sm 32 (draws1 (ns.take 63)).1 := draws_sm _ _ (by decide)
      have hlen1 : (draws1 (ns.take 63)).2.length ≤ 0 + 60 * (ns.take 63).length := draws_len _ _
      rw [List.length_take] at hlen1
      refine sv_seq (fun G => ∃ a b c s, G = [D.l (intsT ns), D.t (.int many), D.own (intsT (draws2 ns many).2), s, a, b, c]) ?_ ?_
      · refine sv_range1 (n := (many : Int)) (fun k G => ∃ a b c, G = [D.l (intsT ns), D.t (.int many), D.own (intsT (itr (fillStep many) k (draws1 (ns.take 63))).2), D.t (.int (itr (fillStep many) k (draws1 (ns.take 63))).1), a, b, c]) (ev_var rfl) (by omega) ⟨_, _, _, rfl⟩ ?_ ?_
        · rintro k G hk ⟨a, b, c, rfl⟩
          have hk' : k < many := hk
          have hl2 := (fill_len many k (draws1 (ns.take 63))).1
          have hs2 := fill_sm many k hsm1
          refine ⟨_, gd_name 6 _, ?_⟩
          show Sv K W0 _ [D.l (intsT ns), D.t (.int many), D.own (intsT (itr (fillStep many) k (draws1 (ns.take 63))).2), D.t (.int (itr (fillStep many) k (draws1 (ns.take 63))).1), a, b, D.t (.int (k : Int))] { toRet _ with nx := fun G => ∃ a b c, G = [D.l (intsT ns), D.t (.int many), D.own (intsT (fillStep many k (itr (fillStep many) k (draws1 (ns.take 63)))).2), D.t (.int (fillStep many k (itr (fillStep many) k (draws1 (ns.take 63)))).1), a, b, c], ct := _, bk := _ }
          generalize itr (fillStep many) k (draws1 (ns.take 63)) = s2 at *
          refine sv_if (evb_test (ev_lt (ev_lenL (evl_v (by rfl))) (ev_var rfl))) (fun h2 => ?_) (fun h2 => ?_)
          · have h3 : s2.2.length < many := by
              have := of_decide_eq_true h2
              rw [intsT_len] at this
              omega
            have e2 : fillStep many k s2 = (seed2 s2.1 k, s2.2 ++ [seed2 s2.1 k / 7 % 65521]) := if_pos h3
            rw [e2]
            refine sv_then _ (sv_set (ev_mod (ev_int1 (ev_add (ev_add (ev_mul (ev_var rfl) ev_int (by walk_at "smk")) (ev_var rfl)) ev_int)) ev_int (by decide)) rfl) (sv_append rfl (ev_mod (ev_fdiv (ev_int1 (ev_var rfl)) ev_int ⟨by decide, by decide⟩) ev_int (by decide)) (by rw [intsT_len]; omega) ⟨a, b, D.t (.int (k : Int)), ?_⟩)
            rw [intsT_snoc]
            rfl
          · have h3 : ¬ s2.2.length < many := by
              have := of_decide_eq_false h2
              rw [intsT_len] at this
              omega
            have e2 : fillStep many k s2 = s2 := if_neg h3
            rw [e2]
            exact sv_next ⟨_, _, _, rfl⟩
        · rintro G ⟨a, b, c, rfl⟩
          exact ⟨_, _, _, _, rfl⟩
      · rintro G ⟨a, b, c, s, rfl⟩
        exact sv_retF (evf_eq (evf_slice (evl_v (by rfl)) evo_none (evo_some (ev_var rfl))) (cut_to _ many)) rfl
local macro_rules | `(tactic| walk_at "R_law_draws") => `(tactic| exact ⟨_, 60, rfl, rfl, by decide⟩)

theorem sc_law_image : FnScope ["matrix", "row", "line"] ["matrix", "row"] (defScope s_law_image) := ⟨rfl, rfl, rfl, by decide +kernel, rfl, by decide +kernel, by decide +kernel⟩
def R_law_image : List D → D → Prop := fun ds r => ∃ (m : Mat) (v : Row) (n k : Nat), ds = [.t (mat m), .t (row v)] ∧ r = .t (row (image m v)) ∧ m.sm n ∧ v.sm k ∧ n ≤ 90000 ∧ k ≤ 90000
theorem ok_law_image (T : Txt K mg) : FnOk P w K mg base CX0 1 T.a_law_image T.fd_law_image ["matrix", "row"] (spD K R_law_image) := by
  refine fn_d T.F_law_image sc_law_image (fun ds r h => ?_) (fun cdv A outer s H E hr => ?_)
  · obtain ⟨m, v, n, k, rfl, _⟩ := h
    rfl
  · have hu := hr.units
    skip
    refine ⟨_, (pss_one (ps_ret (pk_tupleOf K (by rfl) T.z_tuple (pe_lc (own := [("line", 2)]) (g := (gName 2)) rfl sc_law_image.nd (pki_tup K (pv 0)) (blkOk_by (own := [("line", 2)]) (N := ["matrix", "row", "line"]) (sc := defScope s_law_image) (by decide +kernel)) (fun _ _ _ _ _ => (pg_name (i := 2) sc_law_image.nd rfl (by first | exact Or.inl rfl | exact Or.inr rfl))) (fun _ _ _ _ _ => pts_nil) (fun _ _ _ _ _ => (pe_op op_add (pe_op op_add (pe_op op_mulW (pk_ixT K (pv 2) pe_int (fun _ _ => rfl)) (pk_ixT K (pv 1) pe_int (fun _ _ => rfl))) (pe_op op_mulW (pk_ixT K (pv 2) pe_int (fun _ _ => rfl)) (pk_ixT K (pv 1) pe_int (fun _ _ => rfl)))) (pe_op op_mulW (pk_ixT K (pv 2) pe_int (fun _ _ => rfl)) (pk_ixT K (pv 1) pe_int (fun _ _ => rfl))))))))), fun ds r h => ?_⟩
    obtain ⟨m, v, n, k, rfl, rfl, hc⟩ := h
    obtain ⟨hm, hk, hn, hn2⟩ := hc
    show Sv K W0 _ [D.t (mat m), D.t (row v), D.no] _
    refine (sv_ret (ev_asrow (ev_tupleL (evl_f (evf_lcT3 (ev_var rfl) (ev_add (ev_add (ev_mul (ev_ixT (ev_var rfl) ev_int (by rfl)) (ev_ixT (ev_var rfl) ev_int (by rfl)) (by walk_at "smk")) (ev_mul (ev_ixT (ev_var rfl) ev_int (by rfl)) (ev_ixT (ev_var rfl) ev_int (by rfl)) (by walk_at "smk"))) (ev_mul (ev_ixT (ev_var rfl) ev_int (by rfl)) (ev_ixT (ev_var rfl) ev_int (by rfl)) (by walk_at "smk"))) (ev_add (ev_add (ev_mul (ev_ixT (ev_var rfl) ev_int (by rfl)) (ev_ixT (ev_var rfl) ev_int (by rfl)) (by walk_at "smk")) (ev_mul (ev_ixT (ev_var rfl) ev_int (by rfl)) (ev_ixT (ev_var rfl) ev_int (by rfl)) (by walk_at "smk"))) (ev_mul (ev_ixT (ev_var rfl) ev_int (by rfl)) (ev_ixT (ev_var rfl) ev_int (by rfl)) (by walk_at "smk"))) (ev_add (ev_add (ev_mul (ev_ixT (ev_var rfl) ev_int (by rfl)) (ev_ixT (ev_var rfl) ev_int (by rfl)) (by walk_at "smk")) (ev_mul (ev_ixT (ev_var rfl) ev_int (by rfl)) (ev_ixT (ev_var rfl) ev_int (by rfl)) (by walk_at "smk"))) (ev_mul (ev_ixT (ev_var rfl) ev_int (by rfl)) (ev_ixT (ev_var rfl) ev_int (by rfl)) (by walk_at "smk"))))))) ?_)
    rfl
local macro_rules | `(tactic| walk_at "R_law_image") => `(tactic| exact ⟨_, _, _, _, rfl, rfl, by walk_at "sm", by walk_at "sm", by first | decide | omega, by first | decide | omega⟩)
theorem sc_law_times : FnScope ["first", "second", "found", "i", "j"] ["first", "second"] (defScope s_law_times) := ⟨rfl, rfl, rfl, by decide +kernel, rfl, by decide +kernel, by decide +kernel⟩
def R_law_times : List D → D → Prop := fun ds r => ∃ (m q : Mat) (n k : Nat), ds = [.t (mat m), .t (mat q)] ∧ r = .t (mat (mul m q)) ∧ m.sm n ∧ q.sm k ∧ n ≤ 90000 ∧ k ≤ 90000
theorem ok_law_times (T : Txt K mg) : FnOk P w K mg base CX0 1 T.a_law_times T.fd_law_times ["first", "second"] (spD K R_law_times) := by
  refine fn_d T.F_law_times sc_law_times (fun ds r h => ?_) (fun cdv A outer s H E hr => ?_)
  · obtain ⟨m, q, n, k, rfl, _⟩ := h
    rfl
  · have hu := hr.units
    skip
    refine ⟨_, (pss_cons (ps_set (i := 2) sc_law_times.nd rfl (by first | exact Or.inl rfl | exact Or.inr rfl) (pe_lst pa_nil))
    (pss_cons (ps_for PassesOwn.never rfl (pi_range1 (by rfl) T.z_range (pa_cons pe_int pa_nil)) (pg_name (i := 3) sc_law_times.nd rfl (by first | exact Or.inl rfl | exact Or.inr rfl)) (pss_one (ps_expr (pe_bm PySem.F.plainAttrs_list PySem.F.slot_list_append PySem.F.type_list_append mt_append (pv 2) (pa_cons (pk_tupleOf K (by rfl) T.z_tuple (pe_lc (own := [("j", 4)]) (g := (gName 4)) rfl sc_law_times.nd (pi_range1 (by rfl) T.z_range (pa_cons pe_int pa_nil)) (blkOk_by (own := [("j", 4)]) (N := ["first", "second", "found", "i", "j"]) (sc := defScope s_law_times) (by decide +kernel)) (fun _ _ _ _ _ => (pg_name (i := 4) sc_law_times.nd rfl (by first | exact Or.inl rfl | exact Or.inr rfl))) (fun _ _ _ _ _ => pts_nil) (fun _ _ _ _ _ => (pe_op op_add (pe_op op_add (pe_op op_mulW (pk_ixT K (pk_ixT K (pv 0) (pv 3) (fun _ _ => rfl)) pe_int (fun _ _ => rfl)) (pk_ixT K (pk_ixT K (pv 1) pe_int (fun _ _ => rfl)) (pv 4) (fun _ _ => rfl))) (pe_op op_mulW (pk_ixT K (pk_ixT K (pv 0) (pv 3) (fun _ _ => rfl)) pe_int (fun _ _ => rfl)) (pk_ixT K (pk_ixT K (pv 1) pe_int (fun _ _ => rfl)) (pv 4) (fun _ _ => rfl)))) (pe_op op_mulW (pk_ixT K (pk_ixT K (pv 0) (pv 3) (fun _ _ => rfl)) pe_int (fun _ _ => rfl)) (pk_ixT K (pk_ixT K (pv 1) pe_int (fun _ _ => rfl)) (pv 4) (fun _ _ => rfl))))))) pa_nil)))))
    (pss_one (ps_ret (pk_tupleOf K (by rfl) T.z_tuple (pv 2)))))), fun ds r h => ?_⟩
    obtain ⟨m, q, n, k, rfl, rfl, hc⟩ := h
    obtain ⟨hm, hk, hn, hn2⟩ := hc
    show Sv K W0 _ [D.t (mat m), D.t (mat q), D.no, D.no, D.no] _
    refine (sv_then _ (sv_setF (evf_lsts evt_nil (le_ok rfl)) rfl)
    (sv_then _ (sv_range3 (sv_append rfl (ev_asrow (ev_tupleL (evl_f (evf_lcR3 (ev_add (ev_add (ev_mul (ev_ixT (ev_ixT (ev_var rfl) (ev_var rfl) (by rfl)) ev_int (by rfl)) (ev_ixT (ev_ixT (ev_var rfl) ev_int (by rfl)) (ev_var rfl) (by rfl)) (by walk_at "smk")) (ev_mul (ev_ixT (ev_ixT (ev_var rfl) (ev_var rfl) (by rfl)) ev_int (by rfl)) (ev_ixT (ev_ixT (ev_var rfl) ev_int (by rfl)) (ev_var rfl) (by rfl)) (by walk_at "smk"))) (ev_mul (ev_ixT (ev_ixT (ev_var rfl) (ev_var rfl) (by rfl)) ev_int (by rfl)) (ev_ixT (ev_ixT (ev_var rfl) ev_int (by rfl)) (ev_var rfl) (by rfl)) (by walk_at "smk"))) (ev_add (ev_add (ev_mul (ev_ixT (ev_ixT (ev_var rfl) (ev_var rfl) (by rfl)) ev_int (by rfl)) (ev_ixT (ev_ixT (ev_var rfl) ev_int (by rfl)) (ev_var rfl) (by rfl)) (by walk_at "smk")) (ev_mul (ev_ixT (ev_ixT (ev_var rfl) (ev_var rfl) (by rfl)) ev_int (by rfl)) (ev_ixT (ev_ixT (ev_var rfl) ev_int (by rfl)) (ev_var rfl) (by rfl)) (by walk_at "smk"))) (ev_mul (ev_ixT (ev_ixT (ev_var rfl) (ev_var rfl) (by rfl)) ev_int (by rfl)) (ev_ixT (ev_ixT (ev_var rfl) ev_int (by rfl)) (ev_var rfl) (by rfl)) (by walk_at "smk"))) (ev_add (ev_add (ev_mul (ev_ixT (ev_ixT (ev_var rfl) (ev_var rfl) (by rfl)) ev_int (by rfl)) (ev_ixT (ev_ixT (ev_var rfl) ev_int (by rfl)) (ev_var rfl) (by rfl)) (by walk_at "smk")) (ev_mul (ev_ixT (ev_ixT (ev_var rfl) (ev_var rfl) (by rfl)) ev_int (by rfl)) (ev_ixT (ev_ixT (ev_var rfl) ev_int (by rfl)) (ev_var rfl) (by rfl)) (by walk_at "smk"))) (ev_mul (ev_ixT (ev_ixT (ev_var rfl) (ev_var rfl) (by rfl)) ev_int (by rfl)) (ev_ixT (ev_ixT (ev_var rfl) ev_int (by rfl)) (ev_var rfl) (by rfl)) (by walk_at "smk"))))))) (lt_ok rfl) rfl)
      (sv_append rfl (ev_asrow (ev_tupleL (evl_f (evf_lcR3 (ev_add (ev_add (ev_mul (ev_ixT (ev_ixT (ev_var rfl) (ev_var rfl) (by rfl)) ev_int (by rfl)) (ev_ixT (ev_ixT (ev_var rfl) ev_int (by rfl)) (ev_var rfl) (by rfl)) (by walk_at "smk")) (ev_mul (ev_ixT (ev_ixT (ev_var rfl) (ev_var rfl) (by rfl)) ev_int (by rfl)) (ev_ixT (ev_ixT (ev_var rfl) ev_int (by rfl)) (ev_var rfl) (by rfl)) (by walk_at "smk"))) (ev_mul (ev_ixT (ev_ixT (ev_var rfl) (ev_var rfl) (by rfl)) ev_int (by rfl)) (ev_ixT (ev_ixT (ev_var rfl) ev_int (by rfl)) (ev_var rfl) (by rfl)) (by walk_at "smk"))) (ev_add (ev_add (ev_mul (ev_ixT (ev_ixT (ev_var rfl) (ev_var rfl) (by rfl)) ev_int (by rfl)) (ev_ixT (ev_ixT (ev_var rfl) ev_int (by rfl)) (ev_var rfl) (by rfl)) (by walk_at "smk")) (ev_mul (ev_ixT (ev_ixT (ev_var rfl) (ev_var rfl) (by rfl)) ev_int (by rfl)) (ev_ixT (ev_ixT (ev_var rfl) ev_int (by rfl)) (ev_var rfl) (by rfl)) (by walk_at "smk"))) (ev_mul (ev_ixT (ev_ixT (ev_var rfl) (ev_var rfl) (by rfl)) ev_int (by rfl)) (ev_ixT (ev_ixT (ev_var rfl) ev_int (by rfl)) (ev_var rfl) (by rfl)) (by walk_at "smk"))) (ev_add (ev_add (ev_mul (ev_ixT (ev_ixT (ev_var rfl) (ev_var rfl) (by rfl)) ev_int (by rfl)) (ev_ixT (ev_ixT (ev_var rfl) ev_int (by rfl)) (ev_var rfl) (by rfl)) (by walk_at "smk")) (ev_mul (ev_ixT (ev_ixT (ev_var rfl) (ev_var rfl) (by rfl)) ev_int (by rfl)) (ev_ixT (ev_ixT (ev_var rfl) ev_int (by rfl)) (ev_var rfl) (by rfl)) (by walk_at "smk"))) (ev_mul (ev_ixT (ev_ixT (ev_var rfl) (ev_var rfl) (by rfl)) ev_int (by rfl)) (ev_ixT (ev_ixT (ev_var rfl) ev_int (by rfl)) (ev_var rfl) (by rfl)) (by walk_at "smk"))))))) (lt_ok rfl) rfl)
      (sv_append rfl (ev_asrow (ev_tupleL (evl_f (evf_lcR3 (ev_add (ev_add (ev_mul (ev_ixT (ev_ixT (ev_var rfl) (ev_var rfl) (by rfl)) ev_int (by rfl)) (ev_ixT (ev_ixT (ev_var rfl) ev_int (by rfl)) (ev_var rfl) (by rfl)) (by walk_at "smk")) (ev_mul (ev_ixT (ev_ixT (ev_var rfl) (ev_var rfl) (by rfl)) ev_int (by rfl)) (ev_ixT (ev_ixT (ev_var rfl) ev_int (by rfl)) (ev_var rfl) (by rfl)) (by walk_at "smk"))) (ev_mul (ev_ixT (ev_ixT (ev_var rfl) (ev_var rfl) (by rfl)) ev_int (by rfl)) (ev_ixT (ev_ixT (ev_var rfl) ev_int (by rfl)) (ev_var rfl) (by rfl)) (by walk_at "smk"))) (ev_add (ev_add (ev_mul (ev_ixT (ev_ixT (ev_var rfl) (ev_var rfl) (by rfl)) ev_int (by rfl)) (ev_ixT (ev_ixT (ev_var rfl) ev_int (by rfl)) (ev_var rfl) (by rfl)) (by walk_at "smk")) (ev_mul (ev_ixT (ev_ixT (ev_var rfl) (ev_var rfl) (by rfl)) ev_int (by rfl)) (ev_ixT (ev_ixT (ev_var rfl) ev_int (by rfl)) (ev_var rfl) (by rfl)) (by walk_at "smk"))) (ev_mul (ev_ixT (ev_ixT (ev_var rfl) (ev_var rfl) (by rfl)) ev_int (by rfl)) (ev_ixT (ev_ixT (ev_var rfl) ev_int (by rfl)) (ev_var rfl) (by rfl)) (by walk_at "smk"))) (ev_add (ev_add (ev_mul (ev_ixT (ev_ixT (ev_var rfl) (ev_var rfl) (by rfl)) ev_int (by rfl)) (ev_ixT (ev_ixT (ev_var rfl) ev_int (by rfl)) (ev_var rfl) (by rfl)) (by walk_at "smk")) (ev_mul (ev_ixT (ev_ixT (ev_var rfl) (ev_var rfl) (by rfl)) ev_int (by rfl)) (ev_ixT (ev_ixT (ev_var rfl) ev_int (by rfl)) (ev_var rfl) (by rfl)) (by walk_at "smk"))) (ev_mul (ev_ixT (ev_ixT (ev_var rfl) (ev_var rfl) (by rfl)) ev_int (by rfl)) (ev_ixT (ev_ixT (ev_var rfl) ev_int (by rfl)) (ev_var rfl) (by rfl)) (by walk_at "smk"))))))) (lt_ok rfl) rfl) rfl)
    (sv_ret (ev_asmat (ev_tupleL (evl_v (by rfl)))) ?_)))
    show D.t (mat _) = D.t (mat _)
    refine congrArg (fun z => D.t (mat z)) ?_
    apply Mat.ext' <;> apply Row.ext' <;> (simp only [mul, image, dot, Mat.tr]; grind)
local macro_rules | `(tactic| walk_at "R_law_times") => `(tactic| exact ⟨_, _, _, _, rfl, rfl, by walk_at "sm", by walk_at "sm", by first | decide | omega, by first | decide | omega⟩)

theorem sc_law_det : FnScope ["m", "first", "second"] ["m"] (defScope s_law_det) := ⟨rfl, rfl, rfl, by decide +kernel, rfl, by decide +kernel, by decide +kernel⟩
def R_law_det : List D → D → Prop := fun ds r => ∃ (m : Mat) (n : Nat), ds = [.t (mat m)] ∧ r = .t (.int (det m)) ∧ m.sm n ∧ n ≤ 40000
theorem ok_law_det (T : Txt K mg) : FnOk P w K mg base CX0 1 T.a_law_det T.fd_law_det ["m"] (spD K R_law_det) := by
  refine fn_d T.F_law_det sc_law_det (fun ds r h => ?_) (fun cdv A outer s H E hr => ?_)
  · obtain ⟨m, n, rfl, _⟩ := h
    rfl
  · have hu := hr.units
    skip
    refine ⟨_, (pss_cons (ps_set (i := 1) sc_law_det.nd rfl (by first | exact Or.inl rfl | exact Or.inr rfl) (pe_op op_mulW (pk_ixT K (pk_ixT K (pv 0) pe_int (fun _ _ => rfl)) pe_int (fun _ _ => rfl)) (pe_op op_sub (pe_op op_mulW (pk_ixT K (pk_ixT K (pv 0) pe_int (fun _ _ => rfl)) pe_int (fun _ _ => rfl)) (pk_ixT K (pk_ixT K (pv 0) pe_int (fun _ _ => rfl)) pe_int (fun _ _ => rfl))) (pe_op op_mulW (pk_ixT K (pk_ixT K (pv 0) pe_int (fun _ _ => rfl)) pe_int (fun _ _ => rfl)) (pk_ixT K (pk_ixT K (pv 0) pe_int (fun _ _ => rfl)) pe_int (fun _ _ => rfl))))))
    (pss_cons (ps_set (i := 2) sc_law_det.nd rfl (by first | exact Or.inl rfl | exact Or.inr rfl) (pe_op op_mulW (pk_ixT K (pk_ixT K (pv 0) pe_int (fun _ _ => rfl)) pe_int (fun _ _ => rfl)) (pe_op op_sub (pe_op op_mulW (pk_ixT K (pk_ixT K (pv 0) pe_int (fun _ _ => rfl)) pe_int (fun _ _ => rfl)) (pk_ixT K (pk_ixT K (pv 0) pe_int (fun _ _ => rfl)) pe_int (fun _ _ => rfl))) (pe_op op_mulW (pk_ixT K (pk_ixT K (pv 0) pe_int (fun _ _ => rfl)) pe_int (fun _ _ => rfl)) (pk_ixT K (pk_ixT K (pv 0) pe_int (fun _ _ => rfl)) pe_int (fun _ _ => rfl))))))
    (pss_one (ps_ret (pe_op op_add (pe_op op_sub (pv 1) (pv 2)) (pe_op op_mulW (pk_ixT K (pk_ixT K (pv 0) pe_int (fun _ _ => rfl)) pe_int (fun _ _ => rfl)) (pe_op op_sub (pe_op op_mulW (pk_ixT K (pk_ixT K (pv 0) pe_int (fun _ _ => rfl)) pe_int (fun _ _ => rfl)) (pk_ixT K (pk_ixT K (pv 0) pe_int (fun _ _ => rfl)) pe_int (fun _ _ => rfl))) (pe_op op_mulW (pk_ixT K (pk_ixT K (pv 0) pe_int (fun _ _ => rfl)) pe_int (fun _ _ => rfl)) (pk_ixT K (pk_ixT K (pv 0) pe_int (fun _ _ => rfl)) pe_int (fun _ _ => rfl)))))))))), fun ds r h => ?_⟩
    obtain ⟨m, n, rfl, rfl, hc⟩ := h
    obtain ⟨hm, hn⟩ := hc
    show Sv K W0 _ [D.t (mat m), D.no, D.no] _
    refine (sv_then _ (sv_set (ev_mul (ev_ixT (ev_ixT (ev_var rfl) ev_int (by rfl)) ev_int (by rfl)) (ev_sub (ev_mul (ev_ixT (ev_ixT (ev_var rfl) ev_int (by rfl)) ev_int (by rfl)) (ev_ixT (ev_ixT (ev_var rfl) ev_int (by rfl)) ev_int (by rfl)) (by walk_at "smk")) (ev_mul (ev_ixT (ev_ixT (ev_var rfl) ev_int (by rfl)) ev_int (by rfl)) (ev_ixT (ev_ixT (ev_var rfl) ev_int (by rfl)) ev_int (by rfl)) (by walk_at "smk"))) (by walk_at "smk")) rfl)
    (sv_then _ (sv_set (ev_mul (ev_ixT (ev_ixT (ev_var rfl) ev_int (by rfl)) ev_int (by rfl)) (ev_sub (ev_mul (ev_ixT (ev_ixT (ev_var rfl) ev_int (by rfl)) ev_int (by rfl)) (ev_ixT (ev_ixT (ev_var rfl) ev_int (by rfl)) ev_int (by rfl)) (by walk_at "smk")) (ev_mul (ev_ixT (ev_ixT (ev_var rfl) ev_int (by rfl)) ev_int (by rfl)) (ev_ixT (ev_ixT (ev_var rfl) ev_int (by rfl)) ev_int (by rfl)) (by walk_at "smk"))) (by walk_at "smk")) rfl)
    (sv_ret (ev_add (ev_sub (ev_var rfl) (ev_var rfl)) (ev_mul (ev_ixT (ev_ixT (ev_var rfl) ev_int (by rfl)) ev_int (by rfl)) (ev_sub (ev_mul (ev_ixT (ev_ixT (ev_var rfl) ev_int (by rfl)) ev_int (by rfl)) (ev_ixT (ev_ixT (ev_var rfl) ev_int (by rfl)) ev_int (by rfl)) (by walk_at "smk")) (ev_mul (ev_ixT (ev_ixT (ev_var rfl) ev_int (by rfl)) ev_int (by rfl)) (ev_ixT (ev_ixT (ev_var rfl) ev_int (by rfl)) ev_int (by rfl)) (by walk_at "smk"))) (by walk_at "smk"))) ?_)))
    refine congrArg (fun z => D.t (.int z)) ?_
    simp only [det, dot, cross]; grind
local macro_rules | `(tactic| walk_at "R_law_det") => `(tactic| exact ⟨_, _, rfl, rfl, by walk_at "sm", by first | decide | omega⟩)

local macro_rules | `(tactic| walk_at "item") => `(tactic| first | exact Cz.dr_at rfl (by omega) | exact Cz.dr_at' (by first | decide | omega) (by first | omega | (simp only [Int.reduceToNat, Int.reduceMul, Int.reduceAdd]; omega)) | exact Kx.atI_pairs _ | exact Kx.atI_vals _)
theorem sc_law_row : FnScope ["draws", "most", "k"] ["draws", "most"] (defScope s_law_row) := ⟨rfl, rfl, rfl, by decide +kernel, rfl, by decide +kernel, by decide +kernel⟩
def R_law_row : List D → D → Prop := fun ds r => ∃ (ds0 : List Int) (most : Int), ds = [.l (intsT ds0), .t (.int most)] ∧ r = .t (row (rowM ds0 most)) ∧ 3 ≤ ds0.length ∧ 0 ≤ most ∧ most < 1000
theorem ok_law_row (T : Txt K mg) : FnOk P w K mg base CX0 1 T.a_law_row T.fd_law_row ["draws", "most"] (spD K R_law_row) := by
  refine fn_d T.F_law_row sc_law_row (fun ds r h => ?_) (fun cdv A outer s H E hr => ?_)
  · obtain ⟨ds0, most, rfl, _⟩ := h
    rfl
  · have hu := hr.units
    skip
    refine ⟨_, (pss_one (ps_ret (pk_tupleOf K (by rfl) T.z_tuple (pe_lc (own := [("k", 2)]) (g := (gName 2)) rfl sc_law_row.nd (pi_range1 (by rfl) T.z_range (pa_cons pe_int pa_nil)) (blkOk_by (own := [("k", 2)]) (N := ["draws", "most", "k"]) (sc := defScope s_law_row) (by decide +kernel)) (fun _ _ _ _ _ => (pg_name (i := 2) sc_law_row.nd rfl (by first | exact Or.inl rfl | exact Or.inr rfl))) (fun _ _ _ _ _ => pts_nil) (fun _ _ _ _ _ => (pe_op op_sub (pe_op op_mod (pe_callTy call_int1 (by rfl) T.z_int (by decide +kernel) (pa_cons (pk_ixL K (pv 0) (pv 2) (fun _ _ => rfl)) pa_nil)) (pe_op op_add (pe_op op_mulW pe_int (pv 1)) pe_int)) (pv 1))))))), fun ds r h => ?_⟩
    obtain ⟨ds0, most, rfl, rfl, hc⟩ := h
    obtain ⟨hl, h0, h1⟩ := hc
    have hsm : Sm 20 most := by unfold Sm; omega
    show Sv K W0 _ [D.l (intsT ds0), D.t (.int most), D.no] _
    refine (sv_ret (ev_asrow (ev_tupleL (evl_f (evf_lcR3 (ev_sub (ev_mod (ev_int1 (ev_ixL (evl_v (by rfl)) (ev_var rfl) (by walk_at "item"))) (ev_add (ev_mul ev_int (ev_var rfl) (by walk_at "smk")) ev_int) (by first | decide | omega)) (ev_var rfl)) (ev_sub (ev_mod (ev_int1 (ev_ixL (evl_v (by rfl)) (ev_var rfl) (by walk_at "item"))) (ev_add (ev_mul ev_int (ev_var rfl) (by walk_at "smk")) ev_int) (by first | decide | omega)) (ev_var rfl)) (ev_sub (ev_mod (ev_int1 (ev_ixL (evl_v (by rfl)) (ev_var rfl) (by walk_at "item"))) (ev_add (ev_mul ev_int (ev_var rfl) (by walk_at "smk")) ev_int) (by first | decide | omega)) (ev_var rfl)))))) ?_)
    rfl
local macro_rules | `(tactic| walk_at "R_law_row") => `(tactic| exact ⟨_, _, rfl, rfl, by rw [List.length_drop]; omega, by decide, by decide⟩)

theorem sc_law_steps : FnScope ["draws", "many", "found", "k", "i", "j", "lines", "line"] ["draws", "many"] (defScope s_law_steps) := ⟨rfl, rfl, rfl, by decide +kernel, rfl, by decide +kernel, by decide +kernel⟩
def R_law_steps : List D → D → Prop := fun ds r => ∃ (ds0 : List Int) (many : Nat), ds = [.l (intsT ds0), .t (.int many)] ∧ r = .t (mat (stepsM ds0 many)) ∧ many ≤ ds0.length ∧ many ≤ 100
theorem ok_law_steps (T : Txt K mg) : FnOk P w K mg base CX0 2 T.a_law_steps T.fd_law_steps ["draws", "many"] (spD K R_law_steps) := by
  refine fn_d T.F_law_steps sc_law_steps (fun ds r h => ?_) (fun cdv A outer s H E hr => ?_)
  · obtain ⟨ds0, many, rfl, _⟩ := h
    rfl
  · have hu := hr.units
    have G_law_times : FnOk P w K mg base CX0 1 T.a_law_times T.fd_law_times ["first", "second"] (spD K R_law_times) := ok_law_times T
    refine ⟨_, (pss_cons (ps_set (i := 2) sc_law_steps.nd rfl (by first | exact Or.inl rfl | exact Or.inr rfl) (pe_tup (pa_cons (pe_tup (pa_cons pe_int (pa_cons pe_int (pa_cons pe_int pa_nil)))) (pa_cons (pe_tup (pa_cons pe_int (pa_cons pe_int (pa_cons pe_int pa_nil)))) (pa_cons (pe_tup (pa_cons pe_int (pa_cons pe_int (pa_cons pe_int pa_nil)))) pa_nil)))))
    (pss_cons (ps_for PassesOwn.never rfl (pi_range1 (by rfl) T.z_range (pa_cons (pv 1) pa_nil)) (pg_name (i := 3) sc_law_steps.nd rfl (by first | exact Or.inl rfl | exact Or.inr rfl)) (pss_cons (ps_asg (pk_ixL K (pe_lst (pa_cons (pe_tup (pa_cons pe_int (pa_cons pe_int pa_nil))) (pa_cons (pe_tup (pa_cons pe_int (pa_cons pe_int pa_nil))) (pa_cons (pe_tup (pa_cons pe_int (pa_cons pe_int pa_nil))) (pa_cons (pe_tup (pa_cons pe_int (pa_cons pe_int pa_nil))) (pa_cons (pe_tup (pa_cons pe_int (pa_cons pe_int pa_nil))) (pa_cons (pe_tup (pa_cons pe_int (pa_cons pe_int pa_nil))) pa_nil))))))) (pe_op op_mod (pe_callTy call_int1 (by rfl) T.z_int (by decide +kernel) (pa_cons (pk_ixL K (pv 0) (pv 3) (fun _ _ => rfl)) pa_nil)) pe_int) (fun _ _ => rfl)) (pgk_tup K rfl (pgs_cons (pg_name (i := 4) sc_law_steps.nd rfl (by first | exact Or.inl rfl | exact Or.inr rfl)) (pgs_cons (pg_name (i := 5) sc_law_steps.nd rfl (by first | exact Or.inl rfl | exact Or.inr rfl)) pgs_nil))))
    (pss_cons (ps_set (i := 6) sc_law_steps.nd rfl (by first | exact Or.inl rfl | exact Or.inr rfl) (pe_lst (pa_cons (pe_lst (pa_cons pe_int (pa_cons pe_int (pa_cons pe_int pa_nil)))) (pa_cons (pe_lst (pa_cons pe_int (pa_cons pe_int (pa_cons pe_int pa_nil)))) (pa_cons (pe_lst (pa_cons pe_int (pa_cons pe_int (pa_cons pe_int pa_nil)))) pa_nil)))))
    (pss_cons (ps_asg (pk_ixL K (pe_lst (pa_cons pe_int (pa_cons (pe_un un_neg pe_int) (pa_cons pe_int (pa_cons (pe_un un_neg pe_int) pa_nil))))) (pe_op op_mod (pe_callTy call_int1 (by rfl) T.z_int (by decide +kernel) (pa_cons (pe_op op_fdiv (pk_ixL K (pv 0) (pv 3) (fun _ _ => rfl)) pe_int) pa_nil)) pe_int) (fun _ _ => rfl)) (pg_sub (pk_ixL K (pv 6) (pv 4) (fun _ _ => rfl)) (pv 5) set_list))
    (pss_one (ps_set (i := 2) sc_law_steps.nd rfl (by first | exact Or.inl rfl | exact Or.inr rfl) (pe_call G_law_times (hr.mono (by decide)) (by rfl) T.g_law_times T.F_law_times.kp T.b_law_times .nil pass0 (pa_cons (pv 2) (pa_cons (pk_tupleOf K (by rfl) T.z_tuple (pe_lc (own := [("line", 7)]) (g := (gName 7)) rfl sc_law_steps.nd (pki_list K (pv 6)) (blkOk_by (own := [("line", 7)]) (N := ["draws", "many", "found", "k", "i", "j", "lines", "line"]) (sc := defScope s_law_steps) (by decide +kernel)) (fun _ _ _ _ _ => (pg_name (i := 7) sc_law_steps.nd rfl (by first | exact Or.inl rfl | exact Or.inr rfl))) (fun _ _ _ _ _ => pts_nil) (fun _ _ _ _ _ => (pk_tupleOf K (by rfl) T.z_tuple (pv 7))))) pa_nil)))))))))
    (pss_one (ps_ret (pv 2))))), fun ds r h => ?_⟩
    obtain ⟨ds0, many, rfl, rfl, hl, hm⟩ := h
    show Sv K W0 _ [D.l (intsT ds0), D.t (.int many), D.no, D.no, D.no, D.no, D.no, D.no] _
    refine sv_then _ (sv_set (ev_mat (ev_row ev_int ev_int ev_int) (ev_row ev_int ev_int ev_int) (ev_row ev_int ev_int ev_int)) rfl) ?_
    refine sv_seq (fun G => ∃ a b c d, G = [D.l (intsT ds0), D.t (.int many), D.t (mat (stepsM ds0 many)), a, b, c, d, D.no]) ?_ ?_
    · refine sv_range1 (n := (many : Int)) (fun k G => ∃ a b c d, G = [D.l (intsT ds0), D.t (.int many), D.t (mat (stepsM ds0 k)), a, b, c, d, D.no]) (ev_var rfl) (by omega) ⟨_, _, _, _, rfl⟩ ?_ ?_
      · rintro k G hk ⟨a, b, c, d, rfl⟩
        have hk' : k < many := hk
        have hsm := stepsM_sm ds0 k
        have hp := pij (dr ds0 k)
        have hsv : (stepM (dr ds0 k)).sm 2 := elem_sm (pV_sm _) (by decide)
        refine ⟨_, gd_name 3 _, ?_⟩
        refine sv_then _ (sv_asg (ev_ixL (evl_f (evf_lsts (evt_cons (ev_tups (evt_cons ev_int (evt_cons ev_int evt_nil)) (le_ok rfl)) (evt_cons (ev_tups (evt_cons ev_int (evt_cons ev_int evt_nil)) (le_ok rfl)) (evt_cons (ev_tups (evt_cons ev_int (evt_cons ev_int evt_nil)) (le_ok rfl)) (evt_cons (ev_tups (evt_cons ev_int (evt_cons ev_int evt_nil)) (le_ok rfl)) (evt_cons (ev_tups (evt_cons ev_int (evt_cons ev_int evt_nil)) (le_ok rfl)) (evt_cons (ev_tups (evt_cons ev_int (evt_cons ev_int evt_nil)) (le_ok rfl)) evt_nil)))))) (le_ok rfl)))
          (ev_mod (ev_int1 (ev_ixL (evl_v (by rfl)) (ev_var rfl) (by walk_at "item"))) ev_int (by decide)) (by walk_at "item")) (gd_tup rfl (gds_cons (gd_name _ _) (gds_cons (gd_name _ _) gds_nil))) rfl) ?_
        refine sv_lines (L := 6) (by show 6 < 8; decide) (ev_ixL (evl_f (evf_lsts (evt_cons ev_int (evt_cons (ev_neg ev_int) (evt_cons ev_int (evt_cons (ev_neg ev_int) evt_nil)))) (le_ok rfl))) (ev_mod (ev_int1 (ev_fdiv (ev_ixL (evl_v (by rfl)) (ev_var rfl) (by walk_at "item")) ev_int ⟨by decide, by decide⟩)) ev_int (by decide)) (by walk_at "item")) (ev_var rfl) (ev_var rfl) hp.2.2.2.1 hp.2.2.2.2 ?_
        refine sv_set (ev_call (eva_t (ev_var rfl) (eva_t (x := mat (stepM (dr ds0 k))) (ev_eq (ev_tupleL (evl_f (evf_lines rfl (by rw [setL_len]; decide) (lt_ok rfl)))) (elem_eq hp.1 hp.2.1)) eva_nil)) (by walk_at "R_law_times")) ⟨_, _, _, _, rfl⟩
      · rintro G ⟨a, b, c, d, rfl⟩
        exact ⟨_, _, _, _, rfl⟩
    · rintro G ⟨a, b, c, d, rfl⟩
      exact sv_ret (ev_var rfl) rfl
local macro_rules | `(tactic| walk_at "R_law_steps") => `(tactic| exact ⟨_, _, rfl, rfl, by rw [List.length_drop]; omega, by omega⟩)

theorem sc_law_product : FnScope ["table", "v", "w", "near"] ["table", "v", "w"] (defScope s_law_product) := ⟨rfl, rfl, rfl, by decide +kernel, rfl, by decide +kernel, by decide +kernel⟩
def R_law_product : List D → D → Prop := fun ds r => ∃ (m : Mat) (v u : Row) (n k j : Nat), ds = [.t (mat m), .t (row v), .t (row u)] ∧ r = .t (.int (dot v (image m u))) ∧ m.sm n ∧ v.sm k ∧ u.sm j ∧ n ≤ 20000 ∧ k ≤ 20000 ∧ j ≤ 20000
theorem ok_law_product (T : Txt K mg) : FnOk P w K mg base CX0 2 T.a_law_product T.fd_law_product ["table", "v", "w"] (spD K R_law_product) := by
  refine fn_d T.F_law_product sc_law_product (fun ds r h => ?_) (fun cdv A outer s H E hr => ?_)
  · obtain ⟨m, v, u, n, k, j, rfl, _⟩ := h
    rfl
  · have hu := hr.units
    have G_law_image : FnOk P w K mg base CX0 1 T.a_law_image T.fd_law_image ["matrix", "row"] (spD K R_law_image) := ok_law_image T
    refine ⟨_, (pss_cons (ps_set (i := 3) sc_law_product.nd rfl (by first | exact Or.inl rfl | exact Or.inr rfl) (pe_call G_law_image (hr.mono (by decide)) (by rfl) T.g_law_image T.F_law_image.kp T.b_law_image .nil pass0 (pa_cons (pv 0) (pa_cons (pv 2) pa_nil))))
    (pss_one (ps_ret (pe_op op_add (pe_op op_add (pe_op op_mulW (pk_ixT K (pv 1) pe_int (fun _ _ => rfl)) (pk_ixT K (pv 3) pe_int (fun _ _ => rfl))) (pe_op op_mulW (pk_ixT K (pv 1) pe_int (fun _ _ => rfl)) (pk_ixT K (pv 3) pe_int (fun _ _ => rfl)))) (pe_op op_mulW (pk_ixT K (pv 1) pe_int (fun _ _ => rfl)) (pk_ixT K (pv 3) pe_int (fun _ _ => rfl))))))), fun ds r h => ?_⟩
    obtain ⟨m, v, u, n, k, j, rfl, rfl, hm, hv, hu, hn, hk, hj⟩ := h
    show Sv K W0 _ [D.t (mat m), D.t (row v), D.t (row u), D.no] _
    refine (sv_then _ (sv_set (ev_call (eva_t (ev_var rfl) (eva_t (ev_var rfl) eva_nil)) (by walk_at "R_law_image")) rfl)
    (sv_ret (ev_add (ev_add (ev_mul (ev_ixT (ev_var rfl) ev_int (by rfl)) (ev_ixT (ev_var rfl) ev_int (by rfl)) (by walk_at "smk")) (ev_mul (ev_ixT (ev_var rfl) ev_int (by rfl)) (ev_ixT (ev_var rfl) ev_int (by rfl)) (by walk_at "smk"))) (ev_mul (ev_ixT (ev_var rfl) ev_int (by rfl)) (ev_ixT (ev_var rfl) ev_int (by rfl)) (by walk_at "smk"))) ?_))
    rfl
local macro_rules | `(tactic| walk_at "R_law_product") => `(tactic| exact ⟨_, _, _, _, _, _, rfl, rfl, by walk_at "sm", by walk_at "sm", by walk_at "sm", by first | decide | omega, by first | decide | omega, by first | decide | omega⟩)
theorem sc_law_turned : FnScope ["matrix", "j"] ["matrix"] (defScope s_law_turned) := ⟨rfl, rfl, rfl, by decide +kernel, rfl, by decide +kernel, by decide +kernel⟩
def R_law_turned : List D → D → Prop := fun ds r => ∃ (m : Mat), ds = [.t (mat m)] ∧ r = .t (mat m.tr)
theorem ok_law_turned (T : Txt K mg) : FnOk P w K mg base CX0 1 T.a_law_turned T.fd_law_turned ["matrix"] (spD K R_law_turned) := by
  refine fn_d T.F_law_turned sc_law_turned (fun ds r h => ?_) (fun cdv A outer s H E hr => ?_)
  · obtain ⟨m, rfl, _⟩ := h
    rfl
  · have hu := hr.units
    skip
    refine ⟨_, (pss_one (ps_ret (pk_tupleOf K (by rfl) T.z_tuple (pe_lc (own := [("j", 1)]) (g := (gName 1)) rfl sc_law_turned.nd (pi_range1 (by rfl) T.z_range (pa_cons pe_int pa_nil)) (blkOk_by (own := [("j", 1)]) (N := ["matrix", "j"]) (sc := defScope s_law_turned) (by decide +kernel)) (fun _ _ _ _ _ => (pg_name (i := 1) sc_law_turned.nd rfl (by first | exact Or.inl rfl | exact Or.inr rfl))) (fun _ _ _ _ _ => pts_nil) (fun _ _ _ _ _ => (pe_tup (pa_cons (pk_ixT K (pk_ixT K (pv 0) pe_int (fun _ _ => rfl)) (pv 1) (fun _ _ => rfl)) (pa_cons (pk_ixT K (pk_ixT K (pv 0) pe_int (fun _ _ => rfl)) (pv 1) (fun _ _ => rfl)) (pa_cons (pk_ixT K (pk_ixT K (pv 0) pe_int (fun _ _ => rfl)) (pv 1) (fun _ _ => rfl)) pa_nil))))))))), fun ds r h => ?_⟩
    obtain ⟨m, rfl, rfl⟩ := h
    show Sv K W0 _ [D.t (mat m), D.no] _
    refine (sv_ret (ev_asmat (ev_tupleL (evl_f (evf_lcR3 (ev_row (ev_ixT (ev_ixT (ev_var rfl) ev_int (by rfl)) (ev_var rfl) (by rfl)) (ev_ixT (ev_ixT (ev_var rfl) ev_int (by rfl)) (ev_var rfl) (by rfl)) (ev_ixT (ev_ixT (ev_var rfl) ev_int (by rfl)) (ev_var rfl) (by rfl))) (ev_row (ev_ixT (ev_ixT (ev_var rfl) ev_int (by rfl)) (ev_var rfl) (by rfl)) (ev_ixT (ev_ixT (ev_var rfl) ev_int (by rfl)) (ev_var rfl) (by rfl)) (ev_ixT (ev_ixT (ev_var rfl) ev_int (by rfl)) (ev_var rfl) (by rfl))) (ev_row (ev_ixT (ev_ixT (ev_var rfl) ev_int (by rfl)) (ev_var rfl) (by rfl)) (ev_ixT (ev_ixT (ev_var rfl) ev_int (by rfl)) (ev_var rfl) (by rfl)) (ev_ixT (ev_ixT (ev_var rfl) ev_int (by rfl)) (ev_var rfl) (by rfl))))))) ?_)
    rfl
local macro_rules | `(tactic| walk_at "R_law_turned") => `(tactic| exact ⟨_, rfl, rfl⟩)

theorem sc_law_menu : FnScope ["menu", "tables", "a", "b", "c", "d", "e", "f"] [] (defScope s_law_menu) := ⟨rfl, rfl, rfl, by decide +kernel, rfl, by decide +kernel, by decide +kernel⟩
def tupL (xs : List Int) : T := .tup (intsT xs)
def R_law_menu : List D → D → Prop := fun ds r => ds = [] ∧ r = .l (menuM.map mat)
theorem ok_law_menu (T : Txt K mg) : FnOk P w K mg base CX0 1 T.a_law_menu T.fd_law_menu [] (spD K R_law_menu) := by
  refine fn_d T.F_law_menu sc_law_menu (fun ds r h => ?_) (fun cdv A outer s H E hr => ?_)
  · obtain ⟨rfl, _⟩ := h
    rfl
  · have hu := hr.units
    skip
    refine ⟨_, (pss_cons (ps_set (i := 0) sc_law_menu.nd rfl (by first | exact Or.inl rfl | exact Or.inr rfl) (pe_lst (pa_cons (pe_tup (pa_cons pe_int (pa_cons pe_int (pa_cons pe_int (pa_cons pe_int (pa_cons pe_int (pa_cons (pe_un un_neg pe_int) pa_nil))))))) (pa_cons (pe_tup (pa_cons pe_int (pa_cons pe_int (pa_cons pe_int (pa_cons pe_int (pa_cons pe_int (pa_cons (pe_un un_neg pe_int) pa_nil))))))) (pa_cons (pe_tup (pa_cons pe_int (pa_cons pe_int (pa_cons pe_int (pa_cons pe_int (pa_cons pe_int (pa_cons (pe_un un_neg pe_int) pa_nil))))))) (pa_cons (pe_tup (pa_cons pe_int (pa_cons pe_int (pa_cons pe_int (pa_cons pe_int (pa_cons pe_int (pa_cons (pe_un un_neg pe_int) pa_nil))))))) (pa_cons (pe_tup (pa_cons pe_int (pa_cons pe_int (pa_cons pe_int (pa_cons pe_int (pa_cons pe_int (pa_cons (pe_un un_neg pe_int) pa_nil))))))) (pa_cons (pe_tup (pa_cons pe_int (pa_cons pe_int (pa_cons pe_int (pa_cons pe_int (pa_cons pe_int (pa_cons (pe_un un_neg pe_int) pa_nil))))))) pa_nil))))))))
    (pss_cons (ps_set (i := 0) sc_law_menu.nd rfl (by first | exact Or.inl rfl | exact Or.inr rfl) (pe_op op_cat (pv 0) (pe_lst (pa_cons (pe_tup (pa_cons pe_int (pa_cons pe_int (pa_cons pe_int (pa_cons pe_int (pa_cons pe_int (pa_cons (pe_un un_neg pe_int) pa_nil))))))) (pa_cons (pe_tup (pa_cons pe_int (pa_cons pe_int (pa_cons pe_int (pa_cons pe_int (pa_cons pe_int (pa_cons (pe_un un_neg pe_int) pa_nil))))))) (pa_cons (pe_tup (pa_cons pe_int (pa_cons pe_int (pa_cons pe_int (pa_cons pe_int (pa_cons pe_int (pa_cons (pe_un un_neg pe_int) pa_nil))))))) (pa_cons (pe_tup (pa_cons pe_int (pa_cons pe_int (pa_cons pe_int (pa_cons pe_int (pa_cons pe_int (pa_cons pe_int pa_nil))))))) (pa_cons (pe_tup (pa_cons pe_int (pa_cons pe_int (pa_cons pe_int (pa_cons pe_int (pa_cons pe_int (pa_cons pe_int pa_nil))))))) (pa_cons (pe_tup (pa_cons pe_int (pa_cons pe_int (pa_cons pe_int (pa_cons pe_int (pa_cons pe_int (pa_cons (pe_un un_neg pe_int) pa_nil))))))) pa_nil)))))))))
    (pss_cons (ps_set (i := 0) sc_law_menu.nd rfl (by first | exact Or.inl rfl | exact Or.inr rfl) (pe_op op_cat (pv 0) (pe_lst (pa_cons (pe_tup (pa_cons pe_int (pa_cons pe_int (pa_cons pe_int (pa_cons pe_int (pa_cons pe_int (pa_cons (pe_un un_neg pe_int) pa_nil))))))) (pa_cons (pe_tup (pa_cons pe_int (pa_cons pe_int (pa_cons pe_int (pa_cons (pe_un un_neg pe_int) (pa_cons pe_int (pa_cons pe_int pa_nil))))))) (pa_cons (pe_tup (pa_cons pe_int (pa_cons pe_int (pa_cons (pe_un un_neg pe_int) (pa_cons pe_int (pa_cons pe_int (pa_cons (pe_un un_neg pe_int) pa_nil))))))) (pa_cons (pe_tup (pa_cons pe_int (pa_cons pe_int (pa_cons pe_int (pa_cons pe_int (pa_cons pe_int (pa_cons (pe_un un_neg pe_int) pa_nil))))))) (pa_cons (pe_tup (pa_cons pe_int (pa_cons pe_int (pa_cons pe_int (pa_cons pe_int (pa_cons pe_int (pa_cons (pe_un un_neg pe_int) pa_nil))))))) (pa_cons (pe_tup (pa_cons pe_int (pa_cons pe_int (pa_cons pe_int (pa_cons pe_int (pa_cons pe_int (pa_cons pe_int pa_nil))))))) pa_nil)))))))))
    (pss_cons (ps_set (i := 1) sc_law_menu.nd rfl (by first | exact Or.inl rfl | exact Or.inr rfl) (pe_lst pa_nil))
    (pss_cons (ps_for PassesOwn.never rfl (pki_list K (pv 0)) (pgk_tup K rfl (pgs_cons (pg_name (i := 2) sc_law_menu.nd rfl (by first | exact Or.inl rfl | exact Or.inr rfl)) (pgs_cons (pg_name (i := 3) sc_law_menu.nd rfl (by first | exact Or.inl rfl | exact Or.inr rfl)) (pgs_cons (pg_name (i := 4) sc_law_menu.nd rfl (by first | exact Or.inl rfl | exact Or.inr rfl)) (pgs_cons (pg_name (i := 5) sc_law_menu.nd rfl (by first | exact Or.inl rfl | exact Or.inr rfl)) (pgs_cons (pg_name (i := 6) sc_law_menu.nd rfl (by first | exact Or.inl rfl | exact Or.inr rfl)) (pgs_cons (pg_name (i := 7) sc_law_menu.nd rfl (by first | exact Or.inl rfl | exact Or.inr rfl)) pgs_nil))))))) (pss_one (ps_expr (pe_bm PySem.F.plainAttrs_list PySem.F.slot_list_append PySem.F.type_list_append mt_append (pv 1) (pa_cons (pe_tup (pa_cons (pe_tup (pa_cons (pv 2) (pa_cons (pv 3) (pa_cons (pv 4) pa_nil)))) (pa_cons (pe_tup (pa_cons (pv 3) (pa_cons (pv 5) (pa_cons (pv 6) pa_nil)))) (pa_cons (pe_tup (pa_cons (pv 4) (pa_cons (pv 6) (pa_cons (pv 7) pa_nil)))) pa_nil)))) pa_nil)))))
    (pss_one (ps_ret (pv 1)))))))), fun ds r h => ?_⟩
    obtain ⟨rfl, rfl⟩ := h
    show Sv K W0 _ [D.no, D.no, D.no, D.no, D.no, D.no, D.no, D.no] _
    refine sv_then _ (sv_setF (evf_lsts (evt_cons (ev_tups (evt_cons ev_int (evt_cons ev_int (evt_cons ev_int (evt_cons ev_int (evt_cons ev_int (evt_cons (ev_neg ev_int) evt_nil)))))) (le_ok rfl)) (evt_cons (ev_tups (evt_cons ev_int (evt_cons ev_int (evt_cons ev_int (evt_cons ev_int (evt_cons ev_int (evt_cons (ev_neg ev_int) evt_nil)))))) (le_ok rfl)) (evt_cons (ev_tups (evt_cons ev_int (evt_cons ev_int (evt_cons ev_int (evt_cons ev_int (evt_cons ev_int (evt_cons (ev_neg ev_int) evt_nil)))))) (le_ok rfl)) (evt_cons (ev_tups (evt_cons ev_int (evt_cons ev_int (evt_cons ev_int (evt_cons ev_int (evt_cons ev_int (evt_cons (ev_neg ev_int) evt_nil)))))) (le_ok rfl)) (evt_cons (ev_tups (evt_cons ev_int (evt_cons ev_int (evt_cons ev_int (evt_cons ev_int (evt_cons ev_int (evt_cons (ev_neg ev_int) evt_nil)))))) (le_ok rfl)) (evt_cons (ev_tups (evt_cons ev_int (evt_cons ev_int (evt_cons ev_int (evt_cons ev_int (evt_cons ev_int (evt_cons (ev_neg ev_int) evt_nil)))))) (le_ok rfl)) evt_nil)))))) (le_ok rfl)) rfl) (sv_then _ (sv_setF (evf_catO rfl (evf_lsts (evt_cons (ev_tups (evt_cons ev_int (evt_cons ev_int (evt_cons ev_int (evt_cons ev_int (evt_cons ev_int (evt_cons (ev_neg ev_int) evt_nil)))))) (le_ok rfl)) (evt_cons (ev_tups (evt_cons ev_int (evt_cons ev_int (evt_cons ev_int (evt_cons ev_int (evt_cons ev_int (evt_cons (ev_neg ev_int) evt_nil)))))) (le_ok rfl)) (evt_cons (ev_tups (evt_cons ev_int (evt_cons ev_int (evt_cons ev_int (evt_cons ev_int (evt_cons ev_int (evt_cons (ev_neg ev_int) evt_nil)))))) (le_ok rfl)) (evt_cons (ev_tups (evt_cons ev_int (evt_cons ev_int (evt_cons ev_int (evt_cons ev_int (evt_cons ev_int (evt_cons ev_int evt_nil)))))) (le_ok rfl)) (evt_cons (ev_tups (evt_cons ev_int (evt_cons ev_int (evt_cons ev_int (evt_cons ev_int (evt_cons ev_int (evt_cons ev_int evt_nil)))))) (le_ok rfl)) (evt_cons (ev_tups (evt_cons ev_int (evt_cons ev_int (evt_cons ev_int (evt_cons ev_int (evt_cons ev_int (evt_cons (ev_neg ev_int) evt_nil)))))) (le_ok rfl)) evt_nil)))))) (le_ok rfl)) (by decide)) rfl) (sv_then _ (sv_setF (evf_catO rfl (evf_lsts (evt_cons (ev_tups (evt_cons ev_int (evt_cons ev_int (evt_cons ev_int (evt_cons ev_int (evt_cons ev_int (evt_cons (ev_neg ev_int) evt_nil)))))) (le_ok rfl)) (evt_cons (ev_tups (evt_cons ev_int (evt_cons ev_int (evt_cons ev_int (evt_cons (ev_neg ev_int) (evt_cons ev_int (evt_cons ev_int evt_nil)))))) (le_ok rfl)) (evt_cons (ev_tups (evt_cons ev_int (evt_cons ev_int (evt_cons (ev_neg ev_int) (evt_cons ev_int (evt_cons ev_int (evt_cons (ev_neg ev_int) evt_nil)))))) (le_ok rfl)) (evt_cons (ev_tups (evt_cons ev_int (evt_cons ev_int (evt_cons ev_int (evt_cons ev_int (evt_cons ev_int (evt_cons (ev_neg ev_int) evt_nil)))))) (le_ok rfl)) (evt_cons (ev_tups (evt_cons ev_int (evt_cons ev_int (evt_cons ev_int (evt_cons ev_int (evt_cons ev_int (evt_cons (ev_neg ev_int) evt_nil)))))) (le_ok rfl)) (evt_cons (ev_tups (evt_cons ev_int (evt_cons ev_int (evt_cons ev_int (evt_cons ev_int (evt_cons ev_int (evt_cons ev_int evt_nil)))))) (le_ok rfl)) evt_nil)))))) (le_ok rfl)) (by decide)) rfl) (sv_then _ (sv_setF (evf_lsts evt_nil (le_ok rfl)) rfl) ?_)))
    show Sv K W0 _ [D.own (menuI.map tupL), D.own [], D.no, D.no, D.no, D.no, D.no, D.no] _
    refine sv_share (i := 0) rfl ?_
    show Sv K W0 _ [D.l (menuI.map tupL), D.own [], D.no, D.no, D.no, D.no, D.no, D.no] _
    refine sv_seq (fun G => ∃ a b c d e f, G = [D.l (menuI.map tupL), D.own (menuM.map mat), a, b, c, d, e, f]) ?_ ?_
    · refine sv_forV (k := 0) (xs := menuI.map tupL) (fun i G => ∃ a b c d e f, G = [D.l (menuI.map tupL), D.own ((menuM.take i).map mat), a, b, c, d, e, f]) rfl ⟨_, _, _, _, _, _, rfl⟩ ?_ ?_
      · rintro i x G hx ⟨a, b, c, d, e, f, rfl⟩
        rw [List.getElem?_map] at hx
        obtain ⟨ys, hy, rfl⟩ := Option.map_eq_some_iff.mp hx
        have hi : i < menuI.length := (List.getElem?_eq_some_iff.mp hy).1
        have hm : menuM[i]? = some (six ys) := by
          unfold menuM
          rw [List.getElem?_map, hy]
          rfl
        have h6 := menuI_len ys (List.mem_of_getElem? hy)
        match ys, h6, hm with
        | [x1, x2, x3, x4, x5, x6], _, hm =>
          refine ⟨_, gd_tup rfl (gds_cons (gd_name 2 _) (gds_cons (gd_name 3 _) (gds_cons (gd_name 4 _) (gds_cons (gd_name 5 _) (gds_cons (gd_name 6 _) (gds_cons (gd_name 7 _) gds_nil)))))), ?_⟩
          refine sv_append rfl (ev_mat (ev_row (ev_var rfl) (ev_var rfl) (ev_var rfl)) (ev_row (ev_var rfl) (ev_var rfl) (ev_var rfl)) (ev_row (ev_var rfl) (ev_var rfl) (ev_var rfl))) ?_ ⟨D.t (.int x1), D.t (.int x2), D.t (.int x3), D.t (.int x4), D.t (.int x5), D.t (.int x6), ?_⟩
          · rw [List.length_map, List.length_take]
            exact Nat.lt_of_le_of_lt (Nat.min_le_right _ _) (by show 18 < 1000000; decide)
          · rw [take_snoc hm, List.map_append]
            rfl
      · rintro G ⟨a, b, c, d, e, f, rfl⟩
        exact ⟨_, _, _, _, _, _, rfl⟩
    · rintro G ⟨a, b, c, d, e, f, rfl⟩
      exact sv_retO rfl rfl
theorem sc_law_table : FnScope ["draws", "menu", "table", "matrix", "found", "line", "item"] ["draws"] (defScope s_law_table) := ⟨rfl, rfl, rfl, by decide +kernel, rfl, by decide +kernel, by decide +kernel⟩
def R_law_table : List D → D → Prop := fun ds r => ∃ (ds0 : List Int), ds = [.l (intsT ds0)] ∧ r = .t (mat (tabM ds0)) ∧ 10 ≤ ds0.length
theorem ok_law_table (T : Txt K mg) : FnOk P w K mg base CX0 3 T.a_law_table T.fd_law_table ["draws"] (spD K R_law_table) := by
  refine fn_d T.F_law_table sc_law_table (fun ds r h => ?_) (fun cdv A outer s H E hr => ?_)
  · obtain ⟨ds0, rfl, _⟩ := h
    rfl
  · have hu := hr.units
    have G_law_menu : FnOk P w K mg base CX0 1 T.a_law_menu T.fd_law_menu [] (spD K R_law_menu) := ok_law_menu T
    have G_law_steps : FnOk P w K mg base CX0 2 T.a_law_steps T.fd_law_steps ["draws", "many"] (spD K R_law_steps) := ok_law_steps T
    have G_law_times : FnOk P w K mg base CX0 1 T.a_law_times T.fd_law_times ["first", "second"] (spD K R_law_times) := ok_law_times T
    have G_law_turned : FnOk P w K mg base CX0 1 T.a_law_turned T.fd_law_turned ["matrix"] (spD K R_law_turned) := ok_law_turned T
    refine ⟨_, (pss_cons (ps_set (i := 1) sc_law_table.nd rfl (by first | exact Or.inl rfl | exact Or.inr rfl) (pe_call0 G_law_menu (hr.mono (by decide)) (by rfl) T.g_law_menu T.F_law_menu.kp T.b_law_menu .nil pass0))
    (pss_cons (ps_set (i := 2) sc_law_table.nd rfl (by first | exact Or.inl rfl | exact Or.inr rfl) (pk_ixL K (pv 1) (pe_op op_mod (pe_callTy call_int1 (by rfl) T.z_int (by decide +kernel) (pa_cons (pk_ixL K (pv 0) pe_int (fun _ _ => rfl)) pa_nil)) (pe_callB (ck_len K) (by rfl) T.z_len PySem.boot_len (pa_cons (pv 1) pa_nil))) (fun _ _ => rfl)))
    (pss_cons (ps_set (i := 3) sc_law_table.nd rfl (by first | exact Or.inl rfl | exact Or.inr rfl) (pe_call G_law_steps (hr.mono (by decide)) (by rfl) T.g_law_steps T.F_law_steps.kp T.b_law_steps .nil pass0 (pa_cons (pk_slL K (pv 0) (po_some pe_int) po_none) (pa_cons (pe_op op_mod (pe_callTy call_int1 (by rfl) T.z_int (by decide +kernel) (pa_cons (pe_op op_fdiv (pk_ixL K (pv 0) pe_int (fun _ _ => rfl)) pe_int) pa_nil)) pe_int) pa_nil))))
    (pss_cons (ps_set (i := 4) sc_law_table.nd rfl (by first | exact Or.inl rfl | exact Or.inr rfl) (pe_call G_law_times (hr.mono (by decide)) (by rfl) T.g_law_times T.F_law_times.kp T.b_law_times .nil pass0 (pa_cons (pe_call G_law_turned (hr.mono (by decide)) (by rfl) T.g_law_turned T.F_law_turned.kp T.b_law_turned .nil pass0 (pa_cons (pv 3) pa_nil)) (pa_cons (pe_call G_law_times (hr.mono (by decide)) (by rfl) T.g_law_times T.F_law_times.kp T.b_law_times .nil pass0 (pa_cons (pv 2) (pa_cons (pv 3) pa_nil))) pa_nil))))
    (pss_cons (ps_if (pt_cmpR op_gt (pe_callB (ck_max K rfl) (by rfl) T.z_max (by decide +kernel) (pa_cons (pe_lc (own := [("line", 5)]) (g := (gName 5)) rfl sc_law_table.nd (pki_tup K (pv 4)) (blkOk_by (own := [("line", 5)]) (N := ["draws", "menu", "table", "matrix", "found", "line", "item"]) (sc := defScope s_law_table) (by decide +kernel)) (fun _ _ _ _ _ => (pg_name (i := 5) sc_law_table.nd rfl (by first | exact Or.inl rfl | exact Or.inr rfl))) (fun _ _ _ _ _ => pts_nil) (fun _ _ _ _ _ => (pe_callB (ck_max K rfl) (by rfl) T.z_max (by decide +kernel) (pa_cons (pe_lc (own := [("item", 6)]) (g := (gName 6)) rfl sc_law_table.nd (pki_tup K (pv 5)) (blkOk_by (own := [("item", 6)]) (by with_unfolding_all rfl)) (fun _ _ _ _ _ => (pg_name (i := 6) sc_law_table.nd rfl (by first | exact Or.inl rfl | exact Or.inr rfl))) (fun _ _ _ _ _ => pts_nil) (fun _ _ _ _ _ => (pe_callB call_abs (by rfl) T.z_abs (by decide +kernel) (pa_cons (pv 6) pa_nil)))) pa_nil)))) pa_nil)) pe_int (nomark _)) (pss_one (ps_ret (pv 2))) pss_nil)
    (pss_one (ps_ret (pv 4)))))))), fun ds r h => ?_⟩
    obtain ⟨ds0, rfl, rfl, hl⟩ := h
    show Sv K W0 _ [D.l (intsT ds0), D.no, D.no, D.no, D.no, D.no, D.no] _
    refine sv_then _ (sv_setF (evf_call eva_nil (by exact ⟨rfl, rfl⟩)) rfl) ?_
    refine sv_then _ (sv_set (x := mat (tabA ds0)) (ev_ixL (evl_v (by rfl)) (ev_mod (ev_int1 (ev_ixL (evl_v (by rfl)) ev_int (by walk_at "item"))) (ev_lenL (evl_v (by rfl))) (by show (0 : Int) < 18; decide)) (by exact tabA_at ds0)) rfl) ?_
    have h4 : 0 ≤ dr ds0 0 / 20 % 4 ∧ dr ds0 0 / 20 % 4 < 4 := by omega
    refine sv_then _ (sv_set (x := mat (stepT ds0)) (ev_call (eva_l (evl_f (evf_eq (evf_slice (evl_v (by rfl)) (evo_some ev_int) evo_none) (cut_from _ 1))) (eva_t (ev_mod (ev_int1 (ev_fdiv (ev_ixL (evl_v (by rfl)) ev_int (by walk_at "item")) ev_int ⟨by decide, by decide⟩)) ev_int (by decide)) eva_nil)) (by exact ⟨_, (dr ds0 0 / 20 % 4).toNat, (by rw [Int.toNat_of_nonneg h4.1]; rfl), rfl, by rw [List.length_drop]; omega, by omega⟩)) rfl) ?_
    have hA : (tabA ds0).sm 20 := (items_sm (formOk_items (menu_ok _ (tabA_mem ds0)))).mono (by decide)
    have hT : (stepT ds0).sm 40 := (stepsM_sm _ _).mono (by omega)
    show Sv K W0 _ [D.l (intsT ds0), D.own (menuM.map mat), D.t (mat (tabA ds0)), D.t (mat (stepT ds0)), D.no, D.no, D.no] _
    have e : tabM ds0 = if 1000 < mxM (cong (tabA ds0) (stepT ds0)) then tabA ds0 else cong (tabA ds0) (stepT ds0) := rfl
    rw [e]
    generalize tabA ds0 = A at *
    generalize stepT ds0 = M at *
    refine sv_then _ (sv_set (ev_call (eva_t (ev_call (eva_t (ev_var rfl) eva_nil) (by walk_at "R_law_turned")) (eva_t (ev_call (eva_t (ev_var rfl) (eva_t (ev_var rfl) eva_nil)) (by walk_at "R_law_times")) eva_nil)) (by walk_at "R_law_times")) rfl) ?_
    show Sv K W0 _ [D.l (intsT ds0), D.own (menuM.map mat), D.t (mat A), D.t (mat M), D.t (mat (cong A M)), D.no, D.no] _
    generalize cong A M = B at *
    refine sv_seq (fun G => G = [D.l (intsT ds0), D.own (menuM.map mat), D.t (mat A), D.t (mat M), D.t (mat B), D.no, D.no] ∧ ¬ 1000 < mxM B) (sv_if (evb_test (ev_gt (ev_max3 (evl_f (evf_lcT3 (ev_var rfl) (ev_max3 (evl_f (evf_lcT3 (ev_var rfl) (ev_abs (ev_var rfl)) (ev_abs (ev_var rfl)) (ev_abs (ev_var rfl))))) (ev_max3 (evl_f (evf_lcT3 (ev_var rfl) (ev_abs (ev_var rfl)) (ev_abs (ev_var rfl)) (ev_abs (ev_var rfl))))) (ev_max3 (evl_f (evf_lcT3 (ev_var rfl) (ev_abs (ev_var rfl)) (ev_abs (ev_var rfl)) (ev_abs (ev_var rfl)))))))) ev_int)) (fun h => (sv_ret (ev_var rfl) ?_)) (fun h => (sv_next ⟨rfl, ?_⟩))) ?_
    · show D.t (mat A) = D.t (mat (if 1000 < mxM B then A else B))
      have h' : 1000 < mxM B := of_decide_eq_true h
      rw [if_pos h']
    · exact of_decide_eq_false h
    · rintro G ⟨rfl, h⟩
      rw [if_neg h]
      exact sv_ret (ev_var rfl) rfl
local macro_rules | `(tactic| walk_at "R_law_table") => `(tactic| exact ⟨_, rfl, rfl, by omega⟩)

theorem sc_law_found : FnScope ["form", "matrix", "e"] ["form", "matrix"] (defScope s_law_found) := ⟨rfl, rfl, rfl, by decide +kernel, rfl, by decide +kernel, by decide +kernel⟩
def foundD (C : Addr) (m q : Mat) : D := if uni q = true then (if formOk (cong m q) = true then .t (formT C (cong m q)) else .l [.bl false, .bl true]) else .l [.bl true, .bl false]
def R_law_found (C : Addr) : List D → D → Prop := fun ds r => ∃ (m q : Mat) (n : Nat), ds = [.t (formT C m), .t (mat q)] ∧ r = foundD C m q ∧ m.sm 20 ∧ q.sm n ∧ n ≤ 5000
theorem ok_law_found (T : Txt K mg) : FnOk P w K mg base CX0 8 T.a_law_found T.fd_law_found ["form", "matrix"] (spD K (R_law_found T.C_Form)) := by
  refine fn_d T.F_law_found sc_law_found (fun ds r h => ?_) (fun cdv A outer s H E hr => ?_)
  · obtain ⟨m, q, n, rfl, _⟩ := h
    rfl
  · have hu := hr.units
    have G_Form_moved : FnOk P w K mg base (L2.CX P w) 7 T.a_Form_moved T.fd_Form_moved ["self", "matrix"] (spX K (R_Form_moved T.C_Form T.C_BadForm T.C_BadMatrix)) := ok_Form_moved T
    refine ⟨_, pss_one (ps_try_as (i := 2) (tb := fun W => tRet (tMethE T.C_Form "moved" (spX K (R_Form_moved T.C_Form T.C_BadForm T.C_BadMatrix)) (WE W) (tVar 0) (tCons (tVar 1) tNil)))
        (ts := tCls2 T.C_BadMatrix T.C_BadForm (fun a => tRet (tLst (tCons (tCB (rIsE K T.C_BadMatrix a) (tCons (tVar 2) (tCons (tC (.ref T.C_BadMatrix)) tNil))) (tCons (tCB (rIsE K T.C_BadMatrix a) (tCons (tVar 2) (tCons (tC (.ref T.C_BadForm)) tNil))) tNil))))
          (fun a => tRet (tLst (tCons (tCB (rIsE K T.C_BadForm a) (tCons (tVar 2) (tCons (tC (.ref T.C_BadMatrix)) tNil))) (tCons (tCB (rIsE K T.C_BadForm a) (tCons (tVar 2) (tCons (tC (.ref T.C_BadForm)) tNil))) tNil))))) (Wout := fun _ _ _ _ => False)
        rfl rfl sc_law_found.nd rfl rfl ⟨rfl, by decide, Or.inl T.g_ConeroomError⟩ takes0
        (fun W pn xe tk _ => pss_one (ps_ret (by exact (pe_methE (pv 0) T.c_Form T.m_Form_moved G_Form_moved (hr.mono (by decide)) T.b_Form_moved (fun σ => passAt tk σ) (by exact (pa_cons (pv 1) pa_nil))))))
        (fun a oe cls d pn hz hf => pss_cls2 (fun e1 e2 => by
          subst e1
          subst e2
          exact pss_one (ps_ret (pe_lst (by exact (pa_cons (pe_callB (call_isE T.E_BadMatrix hz hf) (by rfl) T.z_isinstance (by decide +kernel) (by exact (pa_cons (pv 2) (pa_cons (pe_glob (by rfl) T.g_BadMatrix rfl) pa_nil)))) (pa_cons (pe_callB (call_isE T.E_BadMatrix hz hf) (by rfl) T.z_isinstance (by decide +kernel) (by exact (pa_cons (pv 2) (pa_cons (pe_glob (by rfl) T.g_BadForm rfl) pa_nil)))) pa_nil)))))) (fun e1 e2 => by
          subst e1
          subst e2
          exact pss_one (ps_ret (pe_lst (by exact (pa_cons (pe_callB (call_isE T.E_BadForm hz hf) (by rfl) T.z_isinstance (by decide +kernel) (by exact (pa_cons (pv 2) (pa_cons (pe_glob (by rfl) T.g_BadMatrix rfl) pa_nil)))) (pa_cons (pe_callB (call_isE T.E_BadForm hz hf) (by rfl) T.z_isinstance (by decide +kernel) (by exact (pa_cons (pv 2) (pa_cons (pe_glob (by rfl) T.g_BadForm rfl) pa_nil)))) pa_nil)))))))), fun ds r h => ?_⟩
    obtain ⟨m, q, n, rfl, rfl, hm, hq, hn⟩ := h
    show Sv K W0 _ [D.t (formT T.C_Form m), D.t (mat q), D.no] _
    refine sv_tryAs (c := .ref T.C_ConeroomError) (i := 2) (tb := fun W => tRet (tMethE T.C_Form "moved" (spX K (R_Form_moved T.C_Form T.C_BadForm T.C_BadMatrix)) (WE W) (tVar 0) (tCons (tVar 1) tNil))) (Wout := fun _ _ _ _ => False)
      (fun C G => G = [D.t (formT T.C_Form m), D.t (mat q), D.no] ∧ ((C = T.C_BadMatrix ∧ uni q = false) ∨ (C = T.C_BadForm ∧ uni q = true ∧ formOk (cong m q) = false))) (fun W' => ?_) ?_ ?_
    · by_cases h1 : uni q = true
      · by_cases h2 : formOk (cong m q) = true
        · refine sv_ret (ev_methE (x := formT T.C_Form (cong m q)) (ns := ["table", "determinant", "last"]) (ts := [mat m, .int (det m), .int (lastM m)]) (ev_var rfl) (by decide +kernel) (eva_t (ev_var rfl) eva_nil) (by exact ⟨_, _, _, rfl, by rw [if_pos h1, if_pos h2], hm, hq, hn⟩)) ?_
          show D.t _ = foundD T.C_Form m q
          unfold foundD
          rw [if_pos h1, if_pos h2]
        · exact sv_retE (eve_methE (Ce := T.C_BadForm) (ns := ["table", "determinant", "last"]) (ts := [mat m, .int (det m), .int (lastM m)]) (ev_var rfl) (by decide +kernel) (eva_t (ev_var rfl) eva_nil) (by exact ⟨_, _, _, rfl, by rw [if_pos h1, if_neg h2], hm, hq, hn⟩)) ⟨rfl, .inr ⟨rfl, h1, by simpa using h2⟩⟩
      · exact sv_retE (eve_methE (Ce := T.C_BadMatrix) (ns := ["table", "determinant", "last"]) (ts := [mat m, .int (det m), .int (lastM m)]) (ev_var rfl) (by decide +kernel) (eva_t (ev_var rfl) eva_nil) (by exact ⟨_, _, _, rfl, by rw [if_neg h1], hm, hq, hn⟩)) ⟨rfl, .inl ⟨rfl, by simpa using h1⟩⟩
    · rintro C G ⟨rfl, ⟨rfl, _⟩ | ⟨rfl, _⟩⟩
      · exact T.m_BadMatrix_ConeroomError
      · exact T.m_BadForm_ConeroomError
    · rintro C G a ⟨rfl, ⟨rfl, h⟩ | ⟨rfl, h, h2⟩⟩
      · refine sv_cls2a (sv_retF (evf_lsts (evt_cons (ev_isE rfl (fun _ h => h) T.k_BadMatrix_BadMatrix) (evt_cons (ev_isE rfl (fun _ h => h) T.k_BadMatrix_BadForm) evt_nil)) (le_ok rfl)) ?_)
        show D.l _ = foundD T.C_Form m q
        unfold foundD
        rw [h]
        rfl
      · refine sv_cls2b (sv_retF (evf_lsts (evt_cons (ev_isE rfl (fun _ h => h) T.k_BadForm_BadMatrix) (evt_cons (ev_isE rfl (fun _ h => h) T.k_BadForm_BadForm) evt_nil)) (le_ok rfl)) ?_)
        show D.l _ = foundD T.C_Form m q
        unfold foundD
        rw [h, h2]
        rfl


theorem cut_from' {ds : List Int} {x : Int} (k : Nat) (e : x = (k : Int)) : cutT (intsT ds) (some x) none = intsT (ds.drop k) := by
  rw [e]
  exact cut_from _ _
theorem pl_two (a b : Int) : Pl (.tup [.int a, .int b]) := ⟨rfl, by rfl⟩
theorem pl_bls (a b : Bool) : PlL [.bl a, .bl b] := ⟨rfl, by rfl⟩
def spLaw (K : PySem.W.Frag) : Sp := fun vs H Q _ => ∃ (a : Addr) (ns : List Int), vs = [.ref a] ∧ SqL K H a (ns.map V.int) ∧ ns.length ≤ 63 ∧ ∀ H', Q (.bl true) H'
theorem sc_law : FnScope ["script", "draws", "table", "form", "matrix", "due", "found", "v", "w", "other", "line", "item", "i"] ["script"] (defScope s_law) := ⟨rfl, rfl, rfl, by decide +kernel, rfl, by decide +kernel, by decide +kernel⟩
def R_law : List D → D → Prop := fun ds r => ∃ (ns : List Int), ds = [.l (intsT ns)] ∧ r = .t (.bl true)
theorem law_pre {vs : List V} {H : Hp} {Q : VK} {E : XK} (h : spLaw K vs H Q E) : spD K R_law vs H Q E := by
  obtain ⟨a, ns, rfl, hS, _, q⟩ := h
  refine ⟨_, _, ⟨ns, rfl, rfl⟩, .cons ⟨a, _, rfl, hS, Rps.ints ns⟩ .nil, fun v H' _ r => ?_⟩
  have r' : Rp K H' v (.bl true) := r
  cases r'
  exact q H'
theorem ok_law {fa : Addr} {fd : FuncData} (F : Fun K "law" "law" s_law fa fd) (T : Txt K mg) : FnOk P w K mg base CX0 9 fa fd ["script"] (spLaw K) := by
  refine FnOk.imp (sp := spD K R_law) ?_ (fun _ _ _ _ h => law_pre h)
  refine fn_d F sc_law (fun ds r h => ?_) (fun cdv A outer s H E hr => ?_)
  · obtain ⟨ns, rfl, _⟩ := h
    rfl
  · have hu := hr.units
    have G_law_draws : FnOk P w K mg base CX0 1 T.a_law_draws T.fd_law_draws ["script", "many"] (spD K R_law_draws) := ok_law_draws T
    have G_law_table : FnOk P w K mg base CX0 3 T.a_law_table T.fd_law_table ["draws"] (spD K R_law_table) := ok_law_table T
    have G_Form__init_ : FnOk P w K mg base (L2.CX P w) 5 T.a_Form__init_ T.fd_Form__init_ ["self", "table"] (spI K T.C_Form (R_Form__init_ T.C_Form T.C_BadForm)) := ok_Form__init_ T
    have G_law_steps : FnOk P w K mg base CX0 2 T.a_law_steps T.fd_law_steps ["draws", "many"] (spD K R_law_steps) := ok_law_steps T
    have G_law_times : FnOk P w K mg base CX0 1 T.a_law_times T.fd_law_times ["first", "second"] (spD K R_law_times) := ok_law_times T
    have G_law_turned : FnOk P w K mg base CX0 1 T.a_law_turned T.fd_law_turned ["matrix"] (spD K R_law_turned) := ok_law_turned T
    have G_law_found : FnOk P w K mg base CX0 8 T.a_law_found T.fd_law_found ["form", "matrix"] (spD K (R_law_found T.C_Form)) := ok_law_found T
    have G_law_row : FnOk P w K mg base CX0 1 T.a_law_row T.fd_law_row ["draws", "most"] (spD K R_law_row) := ok_law_row T
    have G_Form_product : FnOk P w K mg base CX0 3 T.a_Form_product T.fd_Form_product ["self", "v", "w"] (spD K (R_Form_product T.C_Form)) := ok_Form_product T
    have G_law_product : FnOk P w K mg base CX0 2 T.a_law_product T.fd_law_product ["table", "v", "w"] (spD K R_law_product) := ok_law_product T
    have G_law_image : FnOk P w K mg base CX0 1 T.a_law_image T.fd_law_image ["matrix", "row"] (spD K R_law_image) := ok_law_image T
    have G_Form_moved : FnOk P w K mg base (L2.CX P w) 7 T.a_Form_moved T.fd_Form_moved ["self", "matrix"] (spX K (R_Form_moved T.C_Form T.C_BadForm T.C_BadMatrix)) := ok_Form_moved T
    have G_inverse_of : FnOk P w K mg base (L2.CX P w) 4 T.a_inverse_of T.fd_inverse_of ["matrix"] (spX K (R_inverse_of T.C_BadMatrix)) := ok_inverse_of T
    have G_law_det : FnOk P w K mg base CX0 1 T.a_law_det T.fd_law_det ["m"] (spD K R_law_det) := ok_law_det T
    refine ⟨_, (pss_cons (ps_set (i := 1) sc_law.nd rfl (by first | exact Or.inl rfl | exact Or.inr rfl) (pe_call G_law_draws (hr.mono (by decide)) (by rfl) T.g_law_draws T.F_law_draws.kp T.b_law_draws .nil pass0 (pa_cons (pv 0) (pa_cons pe_int pa_nil))))
    (pss_cons (ps_set (i := 2) sc_law.nd rfl (by first | exact Or.inl rfl | exact Or.inr rfl) (pe_call G_law_table (hr.mono (by decide)) (by rfl) T.g_law_table T.F_law_table.kp T.b_law_table .nil pass0 (pa_cons (pv 1) pa_nil)))
    (pss_cons (ps_set (i := 3) sc_law.nd rfl (by first | exact Or.inl rfl | exact Or.inr rfl) (pe_make T.M_Form G_Form__init_ (hr.mono (by decide)) (by rfl) T.g_Form T.b_Form__init_ .nil passL (pa_cons (pv 2) pa_nil)))
    (pss_cons (ps_set (i := 4) sc_law.nd rfl (by first | exact Or.inl rfl | exact Or.inr rfl) (pe_call G_law_steps (hr.mono (by decide)) (by rfl) T.g_law_steps T.F_law_steps.kp T.b_law_steps .nil pass0 (pa_cons (pk_slL K (pv 1) (po_some pe_int) po_none) (pa_cons (pe_op op_mod (pe_callTy call_int1 (by rfl) T.z_int (by decide +kernel) (pa_cons (pk_ixL K (pv 1) pe_int (fun _ _ => rfl)) pa_nil)) pe_int) pa_nil))))
    (pss_cons (ps_if (pt_cmpR op_eq (pe_op op_mod (pe_callTy call_int1 (by rfl) T.z_int (by decide +kernel) (pa_cons (pk_ixL K (pv 1) pe_int (fun _ _ => rfl)) pa_nil)) pe_int) pe_int (nomark _)) (pss_one (ps_set (i := 4) sc_law.nd rfl (by first | exact Or.inl rfl | exact Or.inr rfl) (pe_tup (pa_cons (pk_ixT K (pv 4) pe_int (fun _ _ => rfl)) (pa_cons (pk_ixT K (pv 4) pe_int (fun _ _ => rfl)) (pa_cons (pk_ixT K (pv 4) pe_int (fun _ _ => rfl)) pa_nil)))))) pss_nil)
    (pss_cons (ps_if (pt_cmpR op_eq (pe_op op_mod (pe_callTy call_int1 (by rfl) T.z_int (by decide +kernel) (pa_cons (pk_ixL K (pv 1) pe_int (fun _ _ => rfl)) pa_nil)) pe_int) pe_int (nomark _)) (pss_one (ps_set (i := 4) sc_law.nd rfl (by first | exact Or.inl rfl | exact Or.inr rfl) (pe_tup (pa_cons (pk_ixT K (pv 4) pe_int (fun _ _ => rfl)) (pa_cons (pk_ixT K (pv 4) pe_int (fun _ _ => rfl)) (pa_cons (pk_ixT K (pv 4) pe_int (fun _ _ => rfl)) pa_nil)))))) pss_nil)
    (pss_cons (ps_set (i := 5) sc_law.nd rfl (by first | exact Or.inl rfl | exact Or.inr rfl) (pe_call G_law_times (hr.mono (by decide)) (by rfl) T.g_law_times T.F_law_times.kp T.b_law_times .nil pass0 (pa_cons (pe_call G_law_turned (hr.mono (by decide)) (by rfl) T.g_law_turned T.F_law_turned.kp T.b_law_turned .nil pass0 (pa_cons (pv 4) pa_nil)) (pa_cons (pe_call G_law_times (hr.mono (by decide)) (by rfl) T.g_law_times T.F_law_times.kp T.b_law_times .nil pass0 (pa_cons (pv 2) (pa_cons (pv 4) pa_nil))) pa_nil))))
    (pss_cons (ps_set (i := 6) sc_law.nd rfl (by first | exact Or.inl rfl | exact Or.inr rfl) (pe_call G_law_found (hr.mono (by decide)) (by rfl) T.g_law_found T.F_law_found.kp T.b_law_found .nil pass0 (pa_cons (pv 3) (pa_cons (pv 4) pa_nil))))
    (pss_cons (ps_if (pt_cmpR op_gt (pe_callB (ck_max K rfl) (by rfl) T.z_max (by decide +kernel) (pa_cons (pe_lc (own := [("line", 10)]) (g := (gName 10)) rfl sc_law.nd (pki_tup K (pv 5)) (blkOk_by (own := [("line", 10)]) (N := ["script", "draws", "table", "form", "matrix", "due", "found", "v", "w", "other", "line", "item", "i"]) (sc := defScope s_law) (by decide +kernel)) (fun _ _ _ _ _ => (pg_name (i := 10) sc_law.nd rfl (by first | exact Or.inl rfl | exact Or.inr rfl))) (fun _ _ _ _ _ => pts_nil) (fun _ _ _ _ _ => (pe_callB (ck_max K rfl) (by rfl) T.z_max (by decide +kernel) (pa_cons (pe_lc (own := [("item", 11)]) (g := (gName 11)) rfl sc_law.nd (pki_tup K (pv 10)) (blkOk_by (own := [("item", 11)]) (by with_unfolding_all rfl)) (fun _ _ _ _ _ => (pg_name (i := 11) sc_law.nd rfl (by first | exact Or.inl rfl | exact Or.inr rfl))) (fun _ _ _ _ _ => pts_nil) (fun _ _ _ _ _ => (pe_callB call_abs (by rfl) T.z_abs (by decide +kernel) (pa_cons (pv 11) pa_nil)))) pa_nil)))) pa_nil)) pe_int (nomark _)) (pss_one (ps_ret (pe_cmpR (opk_eqD K hu) (pv 6) (pe_lst (pa_cons pe_bl (pa_cons pe_bl pa_nil))) (nomark _)))) pss_nil)
    (pss_cons (ps_if (PW.pt (pw_or (pt_val (pe_callB (ck_isi K) (by rfl) T.z_isinstance (by decide +kernel) (pa_cons (pv 6) (pa_cons (pe_bltn (v := .ty "list") (u := .type "list") (by rfl) T.z_list (by decide +kernel) rfl) pa_nil)))) (pw_or (pt_cmpR (opk_neD K hu) (pk_fld K (pv 6) rfl) (pv 5) (nomark _)) (pw_or1 (pt_cmpR (opk_neD K hu) (pe_tup (pa_cons (pk_fld K (pv 6) rfl) (pa_cons (pk_fld K (pv 6) rfl) pa_nil))) (pe_tup (pa_cons (pk_fld K (pv 3) rfl) (pa_cons (pk_fld K (pv 3) rfl) pa_nil))) (nomark _)))))) (pss_one (ps_ret pe_bl)) pss_nil)
    (pss_cons (ps_par (i := 7) (j := 8) (by rfl) sc_law.nd rfl rfl (by decide) rfl rfl (pa_cons (pe_call G_law_row (hr.mono (by decide)) (by rfl) T.g_law_row T.F_law_row.kp T.b_law_row .nil pass0 (pa_cons (pk_slL K (pv 1) (po_some pe_int) po_none) (pa_cons pe_int pa_nil))) (pa_cons (pe_call G_law_row (hr.mono (by decide)) (by rfl) T.g_law_row T.F_law_row.kp T.b_law_row .nil pass0 (pa_cons (pk_slL K (pv 1) (po_some pe_int) po_none) (pa_cons pe_int pa_nil))) pa_nil)) (by rfl))
    (pss_cons (ps_if (pt_cmpR op_ne (pe_meth (pv 6) T.c_Form T.m_Form_product G_Form_product (hr.mono (by decide)) T.b_Form_product .nil pass0 (pa_cons (pv 7) (pa_cons (pv 8) pa_nil))) (pe_call G_law_product (hr.mono (by decide)) (by rfl) T.g_law_product T.F_law_product.kp T.b_law_product .nil pass0 (pa_cons (pv 2) (pa_cons (pe_call G_law_image (hr.mono (by decide)) (by rfl) T.g_law_image T.F_law_image.kp T.b_law_image .nil pass0 (pa_cons (pv 4) (pa_cons (pv 7) pa_nil))) (pa_cons (pe_call G_law_image (hr.mono (by decide)) (by rfl) T.g_law_image T.F_law_image.kp T.b_law_image .nil pass0 (pa_cons (pv 4) (pa_cons (pv 8) pa_nil))) pa_nil)))) (nomark _)) (pss_one (ps_ret pe_bl)) pss_nil)
    (pss_cons (ps_if (PW.pt (pw_or (pt_cmpR (opk_neD K hu) (pk_fld K (pe_meth (pv 6) T.c_Form T.m_Form_moved G_Form_moved (hr.mono (by decide)) T.b_Form_moved .nil passL (pa_cons (pe_call G_inverse_of (hr.mono (by decide)) (by rfl) T.g_inverse_of T.F_inverse_of.kp T.b_inverse_of .nil passL (pa_cons (pv 4) pa_nil)) pa_nil)) rfl) (pv 2) (nomark _)) (pw_or1 (pt_cmpR (opk_neD K hu) (pk_fld K (pv 3) rfl) (pv 2) (nomark _))))) (pss_one (ps_ret pe_bl)) pss_nil)
    (pss_cons (ps_set (i := 9) sc_law.nd rfl (by first | exact Or.inl rfl | exact Or.inr rfl) (pk_tupleOf K (by rfl) T.z_tuple (pe_lc (own := [("i", 12)]) (g := (gName 12)) rfl sc_law.nd (pi_range1 (by rfl) T.z_range (pa_cons pe_int pa_nil)) (blkOk_by (own := [("i", 12)]) (N := ["script", "draws", "table", "form", "matrix", "due", "found", "v", "w", "other", "line", "item", "i"]) (sc := defScope s_law) (by decide +kernel)) (fun _ _ _ _ _ => (pg_name (i := 12) sc_law.nd rfl (by first | exact Or.inl rfl | exact Or.inr rfl))) (fun _ _ _ _ _ => pts_nil) (fun _ _ _ _ _ => (pe_call G_law_row (hr.mono (by decide)) (by rfl) T.g_law_row T.F_law_row.kp T.b_law_row .nil pass0 (pa_cons (pk_slL K (pv 1) (po_some (pe_op op_add pe_int (pe_op op_mulW pe_int (pv 12)))) po_none) (pa_cons pe_int pa_nil)))))))
    (pss_one (ps_ret (pe_or (pe_cmpR (opk_in K) (pe_call G_law_det (hr.mono (by decide)) (by rfl) T.g_law_det T.F_law_det.kp T.b_law_det .nil pass0 (pa_cons (pv 9) pa_nil)) (pe_tup (pa_cons pe_int (pa_cons (pe_un un_neg pe_int) pa_nil))) rfl) (pe_one (pe_cmpR (opk_eqD K hu) (pe_call G_law_found (hr.mono (by decide)) (by rfl) T.g_law_found T.F_law_found.kp T.b_law_found .nil pass0 (pa_cons (pv 3) (pa_cons (pv 9) pa_nil))) (pe_lst (pa_cons pe_bl (pa_cons pe_bl pa_nil))) (nomark _)))))))))))))))))))), fun ds r h => ?_⟩
    obtain ⟨ns, rfl, rfl⟩ := h
    have hl := drawsM_len ns 60
    show Sv K W0 _ [D.l (intsT ns), D.no, D.no, D.no, D.no, D.no, D.no, D.no, D.no, D.no, D.no, D.no, D.no] _
    refine sv_then _ (sv_setF (evf_call (eva_l (evl_v (by rfl)) (eva_t ev_int eva_nil)) (by walk_at "R_law_draws")) rfl) ?_
    show Sv K W0 _ [D.l (intsT ns), D.own (intsT (drawsM ns 60)), D.no, D.no, D.no, D.no, D.no, D.no, D.no, D.no, D.no, D.no, D.no] _
    generalize drawsM ns 60 = ds at *
    refine sv_then _ (sv_set (ev_call (eva_l (evl_v (by rfl)) eva_nil) (by walk_at "R_law_table")) rfl) ?_
    have hA := tabM_ok ds
    have hAs := tabM_sm ds
    show Sv K W0 _ [D.l (intsT ns), D.own (intsT ds), D.t (mat (tabM ds)), D.no, D.no, D.no, D.no, D.no, D.no, D.no, D.no, D.no, D.no] _
    generalize tabM ds = M0 at *
    have hS := formOk_sym hA
    refine sv_then _ (sv_set (ev_make (ns := ["table", "determinant", "last"]) (ts := [mat M0, .int (det M0), .int (lastM M0)]) (eva_t (ev_var rfl) eva_nil) (by exact ⟨_, 20, rfl, (if_pos hA).symm, hAs, by decide⟩)) rfl) ?_
    refine sv_then _ (sv_set (x := mat (stepsM (ds.drop 20) (dr ds 19 % 6).toNat)) (ev_call (eva_l (evl_f (evf_eq (evf_slice (evl_v (by rfl)) (evo_some ev_int) evo_none) (cut_from _ 20))) (eva_t (ev_mod (ev_int1 (ev_ixL (evl_v (by rfl)) ev_int (by walk_at "item"))) ev_int (by decide)) eva_nil)) (by exact ⟨_, (dr ds 19 % 6).toNat, (by rw [Int.toNat_of_nonneg (by omega)]; rfl), rfl, by rw [List.length_drop]; omega, by omega⟩)) rfl) ?_
    have hun := uni_of (.inl (stepsM_det (ds.drop 20) (dr ds 19 % 6).toNat))
    have hs := (stepsM_sm (ds.drop 20) (dr ds 19 % 6).toNat).mono (show _ ≤ 40 by omega)
    show Sv K W0 _ [D.l (intsT ns), D.own (intsT ds), D.t (mat M0), D.t (formT T.C_Form M0), D.t (mat (stepsM (ds.drop 20) (dr ds 19 % 6).toNat)), D.no, D.no, D.no, D.no, D.no, D.no, D.no, D.no] _
    generalize stepsM (ds.drop 20) (dr ds 19 % 6).toNat = N at *
    refine sv_seq (fun G => ∃ M : Mat, G = [D.l (intsT ns), D.own (intsT ds), D.t (mat M0), D.t (formT T.C_Form M0), D.t (mat M), D.no, D.no, D.no, D.no, D.no, D.no, D.no, D.no] ∧ uni M = true ∧ M.sm 40) (sv_if (evb_test (ev_eqI (ev_mod (ev_int1 (ev_ixL (evl_v (by rfl)) ev_int (by walk_at "item"))) ev_int (by first | decide | omega)) ev_int)) (fun h => (sv_set (ev_mat (ev_ixT (ev_var rfl) ev_int (by rfl)) (ev_ixT (ev_var rfl) ev_int (by rfl)) (ev_ixT (ev_var rfl) ev_int (by rfl))) ?_)) (fun h => (sv_next ?_))) ?_
    · exact ⟨⟨N.c, N.a, N.b⟩, rfl, uni_turn hun, ⟨hs.c, hs.a, hs.b⟩⟩
    · exact ⟨N, rfl, hun, hs⟩
    rintro G ⟨N, rfl, hun, hs⟩
    refine sv_seq (fun G => ∃ M : Mat, G = [D.l (intsT ns), D.own (intsT ds), D.t (mat M0), D.t (formT T.C_Form M0), D.t (mat M), D.no, D.no, D.no, D.no, D.no, D.no, D.no, D.no] ∧ uni M = true ∧ M.sm 40) (sv_if (evb_test (ev_eqI (ev_mod (ev_int1 (ev_ixL (evl_v (by rfl)) ev_int (by walk_at "item"))) ev_int (by first | decide | omega)) ev_int)) (fun h => (sv_set (ev_mat (ev_ixT (ev_var rfl) ev_int (by rfl)) (ev_ixT (ev_var rfl) ev_int (by rfl)) (ev_ixT (ev_var rfl) ev_int (by rfl))) ?_)) (fun h => (sv_next ?_))) ?_
    · exact ⟨⟨N.b, N.a, N.c⟩, rfl, uni_swap hun, ⟨hs.b, hs.a, hs.c⟩⟩
    · exact ⟨N, rfl, hun, hs⟩
    rintro G ⟨M, rfl, hun, hM⟩
    refine sv_then _ (sv_set (ev_call (eva_t (ev_call (eva_t (ev_var rfl) eva_nil) (by walk_at "R_law_turned")) (eva_t (ev_call (eva_t (ev_var rfl) (eva_t (ev_var rfl) eva_nil)) (by walk_at "R_law_times")) eva_nil)) (by walk_at "R_law_times")) rfl) ?_
    have hBs : (cong M0 M).sm 120 := (sm_mul (sm_tr hM) (sm_mul hAs hM)).mono (by decide)
    have hBd : det (cong M0 M) = det M0 := by rw [det_cong, sq1 hun, Int.mul_one]
    have hBl : lastM (cong M0 M) = lastM M0 := lastM_cong hun
    show Sv K W0 _ [D.l (intsT ns), D.own (intsT ds), D.t (mat M0), D.t (formT T.C_Form M0), D.t (mat M), D.t (mat (cong M0 M)), D.no, D.no, D.no, D.no, D.no, D.no, D.no] _
    by_cases hbig : 1000 < mxM (cong M0 M)
    · have hno : formOk (cong M0 M) = false := by
        cases e : formOk (cong M0 M) with
        | false => rfl
        | true => exact absurd (items_mxM (formOk_items e)) (by omega)
      refine sv_then [D.l (intsT ns), D.own (intsT ds), D.t (mat M0), D.t (formT T.C_Form M0), D.t (mat M), D.t (mat (cong M0 M)), D.own [.bl false, .bl true], D.no, D.no, D.no, D.no, D.no, D.no] (sv_setF (evf_call (eva_t (ev_var rfl) (eva_t (ev_var rfl) eva_nil)) (by exact ⟨_, _, _, rfl, by unfold foundD; rw [hun, hno]; rfl, hAs, hM, by decide⟩)) rfl) ?_
      refine sv_seq (fun _ => False) (sv_if (evb_test (ev_gt (ev_max3 (evl_f (evf_lcT3 (ev_var rfl) (ev_max3 (evl_f (evf_lcT3 (ev_var rfl) (ev_abs (ev_var rfl)) (ev_abs (ev_var rfl)) (ev_abs (ev_var rfl))))) (ev_max3 (evl_f (evf_lcT3 (ev_var rfl) (ev_abs (ev_var rfl)) (ev_abs (ev_var rfl)) (ev_abs (ev_var rfl))))) (ev_max3 (evl_f (evf_lcT3 (ev_var rfl) (ev_abs (ev_var rfl)) (ev_abs (ev_var rfl)) (ev_abs (ev_var rfl)))))))) ev_int)) (fun h => sv_ret (ev_eqL (pl_bls _ _) (pl_bls _ _) (evl_v (by rfl)) (evl_f (evf_lsts (evt_cons ev_bl (evt_cons ev_bl evt_nil)) (le_ok rfl)))) (congrArg (fun z => D.t (.bl z)) (by decide +kernel))) (fun h => absurd hbig (by exact of_decide_eq_false h))) (fun _ z => z.elim)
    · have hok : formOk (cong M0 M) = true := form_cong hA (sq1 hun) (mxM_items hbig)
      have hB20 : (cong M0 M).sm 20 := (items_sm (formOk_items hok)).mono (by decide)
      refine sv_then [D.l (intsT ns), D.own (intsT ds), D.t (mat M0), D.t (formT T.C_Form M0), D.t (mat M), D.t (mat (cong M0 M)), D.t (formT T.C_Form (cong M0 M)), D.no, D.no, D.no, D.no, D.no, D.no] (sv_set (x := formT T.C_Form (cong M0 M)) (ev_call (eva_t (ev_var rfl) (eva_t (ev_var rfl) eva_nil)) (by exact ⟨_, _, _, rfl, by unfold foundD; rw [hun, hok]; rfl, hAs, hM, by decide⟩)) rfl) ?_
      refine sv_then _ (sv_if (evb_test (ev_gt (ev_max3 (evl_f (evf_lcT3 (ev_var rfl) (ev_max3 (evl_f (evf_lcT3 (ev_var rfl) (ev_abs (ev_var rfl)) (ev_abs (ev_var rfl)) (ev_abs (ev_var rfl))))) (ev_max3 (evl_f (evf_lcT3 (ev_var rfl) (ev_abs (ev_var rfl)) (ev_abs (ev_var rfl)) (ev_abs (ev_var rfl))))) (ev_max3 (evl_f (evf_lcT3 (ev_var rfl) (ev_abs (ev_var rfl)) (ev_abs (ev_var rfl)) (ev_abs (ev_var rfl)))))))) ev_int)) (fun h => absurd (by exact of_decide_eq_true h) hbig) (fun h => sv_next rfl)) ?_
      have hpr : ∀ v w : Row, dot v (image (cong M0 M) w) = dot (image M v) (image M0 (image M w)) := fun v w => dot_cong _ _ _ _
      have hinv : cong (cong M0 M) (inv M) = M0 := cong_inv M0 hun
      have hui := uni_inv hun
      have his : (inv M).sm 300 := (inv_sm hM).mono (by decide)
      generalize cong M0 M = B at *
      refine sv_then _ (sv_if (evb_or2 (evb_val (ev_isO T.I_Form (ns := ["table", "determinant", "last"]) (ts := [mat B, .int (det B), .int (lastM B)]) (ev_var rfl) T.kl_Form_list)) (evb_or2 (evb_test (ev_neM (ev_fld 0 (ev_var rfl) T.c_Form T.n_Form_table rfl (by decide +kernel) rfl) (ev_var rfl))) (evb_test (ev_neD (pl_two _ _) (pl_two _ _) (ev_tups (evt_cons (ev_fld 1 (ev_var rfl) T.c_Form T.n_Form_determinant rfl (by decide +kernel) rfl) (evt_cons (ev_fld 2 (ev_var rfl) T.c_Form T.n_Form_last rfl (by decide +kernel) rfl) evt_nil)) (le_ok rfl)) (ev_tups (evt_cons (ev_fld 1 (ev_var rfl) T.c_Form T.n_Form_determinant rfl (by decide +kernel) rfl) (evt_cons (ev_fld 2 (ev_var rfl) T.c_Form T.n_Form_last rfl (by decide +kernel) rfl) evt_nil)) (le_ok rfl)))))) (fun h => (sv_ret ev_bl (by rw [eqv_two] at h; simp [hBd, hBl] at h))) (fun h => (sv_next rfl))) ?_
      have hv := rowM_sm (ds.drop 30) (most := 20) (by decide) (by decide)
      have hw := rowM_sm (ds.drop 33) (most := 20) (by decide) (by decide)
      refine sv_then [D.l (intsT ns), D.own (intsT ds), D.t (mat M0), D.t (formT T.C_Form M0), D.t (mat M), D.t (mat B), D.t (formT T.C_Form B), D.t (row (rowM (ds.drop 30) 20)), D.t (row (rowM (ds.drop 33) 20)), D.no, D.no, D.no, D.no] (sv_par2 (ev_call (eva_l (evl_f (evf_eq (evf_slice (evl_v (by rfl)) (evo_some ev_int) evo_none) (cut_from _ 30))) (eva_t ev_int eva_nil)) (by walk_at "R_law_row")) (ev_call (eva_l (evl_f (evf_eq (evf_slice (evl_v (by rfl)) (evo_some ev_int) evo_none) (cut_from _ 33))) (eva_t ev_int eva_nil)) (by walk_at "R_law_row")) rfl) ?_
      generalize rowM (ds.drop 30) 20 = v at *
      generalize rowM (ds.drop 33) 20 = u at *
      refine sv_then _ (sv_if (evb_test (ev_neI (ev_meth (ns := ["table", "determinant", "last"]) (ts := [mat B, .int (det B), .int (lastM B)]) (ev_var rfl) (by decide +kernel) (eva_t (ev_var rfl) (eva_t (ev_var rfl) eva_nil)) (by walk_at "R_Form_product")) (ev_call (eva_t (ev_var rfl) (eva_t (ev_call (eva_t (ev_var rfl) (eva_t (ev_var rfl) eva_nil)) (by walk_at "R_law_image")) (eva_t (ev_call (eva_t (ev_var rfl) (eva_t (ev_var rfl) eva_nil)) (by walk_at "R_law_image")) eva_nil))) (by walk_at "R_law_product")))) (fun h => (sv_ret ev_bl (by simp [hpr] at h))) (fun h => (sv_next rfl))) ?_
      have hmv : (.ok (.t (.obj T.C_Form [Str.ofString "table", Str.ofString "determinant", Str.ofString "last"] [mat M0, .int (det M0), .int (lastM M0)])) : Rs) = (if uni (inv M) = true then (if formOk (cong B (inv M)) = true then .ok (.t (formT T.C_Form (cong B (inv M)))) else .er T.C_BadForm) else .er T.C_BadMatrix) := by
        rw [if_pos hui, hinv, if_pos hA]
        rfl
      refine sv_then _ (sv_if (evb_or2 (evb_test (ev_neM (ev_fld 0 (ns := [Str.ofString "table", Str.ofString "determinant", Str.ofString "last"]) (ts := [mat M0, .int (det M0), .int (lastM M0)]) (ev_methX (x := .obj T.C_Form [Str.ofString "table", Str.ofString "determinant", Str.ofString "last"] [mat M0, .int (det M0), .int (lastM M0)]) (ns := ["table", "determinant", "last"]) (ts := [mat B, .int (det B), .int (lastM B)]) (ev_var rfl) (by decide +kernel) (eva_t (x := mat (inv M)) (ev_callX (eva_t (ev_var rfl) eva_nil) (by exact ⟨_, _, rfl, (if_pos hun).symm, hM, by decide⟩)) eva_nil) (by exact ⟨_, _, _, rfl, hmv, hB20, his, by decide⟩)) T.c_Form T.n_Form_table rfl (by decide +kernel) rfl) (ev_var rfl))) (evb_test (ev_neM (ev_fld 0 (ev_var rfl) T.c_Form T.n_Form_table rfl (by decide +kernel) rfl) (ev_var rfl)))) (fun h => (sv_ret ev_bl (by simp at h))) (fun h => (sv_next rfl))) ?_
      have k0 := rowM_sm (ds.drop 40) (most := 3) (by decide) (by decide)
      have k1 := rowM_sm (ds.drop 43) (most := 3) (by decide) (by decide)
      have k2 := rowM_sm (ds.drop 46) (most := 3) (by decide) (by decide)
      refine sv_then [D.l (intsT ns), D.own (intsT ds), D.t (mat M0), D.t (formT T.C_Form M0), D.t (mat M), D.t (mat B), D.t (formT T.C_Form B), D.t (row v), D.t (row u), D.t (mat ⟨rowM (ds.drop 40) 3, rowM (ds.drop 43) 3, rowM (ds.drop 46) 3⟩), D.no, D.no, D.no] (sv_set (ev_asmat (ev_tupleL (evl_f (evf_lcR3 (ev_call (eva_l (evl_f (evf_eq (evf_slice (evl_v (by rfl)) (evo_some (ev_add ev_int (ev_mul ev_int (ev_var rfl) (by walk_at "smk")))) evo_none) (cut_from' 40 rfl))) (eva_t ev_int eva_nil)) (by walk_at "R_law_row")) (ev_call (eva_l (evl_f (evf_eq (evf_slice (evl_v (by rfl)) (evo_some (ev_add ev_int (ev_mul ev_int (ev_var rfl) (by walk_at "smk")))) evo_none) (cut_from' 43 rfl))) (eva_t ev_int eva_nil)) (by walk_at "R_law_row")) (ev_call (eva_l (evl_f (evf_eq (evf_slice (evl_v (by rfl)) (evo_some (ev_add ev_int (ev_mul ev_int (ev_var rfl) (by walk_at "smk")))) evo_none) (cut_from' 46 rfl))) (eva_t ev_int eva_nil)) (by walk_at "R_law_row")))))) rfl) ?_
      have hO : (⟨rowM (ds.drop 40) 3, rowM (ds.drop 43) 3, rowM (ds.drop 46) 3⟩ : Mat).sm 20 := ⟨k0, k1, k2⟩
      generalize (⟨rowM (ds.drop 40) 3, rowM (ds.drop 43) 3, rowM (ds.drop 46) 3⟩ : Mat) = O at *
      have hiff := uni_iff O
      by_cases hO1 : uni O = true
      · refine sv_ret (ev_orT (ev_eq (ev_inT [1, -1] (ev_call (eva_t (ev_var rfl) eva_nil) (by walk_at "R_law_det")) (ev_tups (evt_cons ev_int (evt_cons (ev_neg ev_int) evt_nil)) (le_ok rfl))) (by rw [← hiff, hO1]))) rfl
      · have hO2 : uni O = false := by simpa using hO1
        refine sv_ret (ev_orF (ev_eq (ev_inT [1, -1] (ev_call (eva_t (ev_var rfl) eva_nil) (by walk_at "R_law_det")) (ev_tups (evt_cons ev_int (evt_cons (ev_neg ev_int) evt_nil)) (le_ok rfl))) (by rw [← hiff, hO2])) (ev_eqL (xs := [.bl true, .bl false]) (pl_bls _ _) (pl_bls _ _) (evl_f (evf_call (eva_t (ev_var rfl) (eva_t (ev_var rfl) eva_nil)) (by exact ⟨_, _, _, rfl, by unfold foundD; rw [hO2]; rfl, hAs, hO, by decide⟩))) (evl_f (evf_lsts (evt_cons ev_bl (evt_cons ev_bl evt_nil)) (le_ok rfl))))) (congrArg (fun z => D.t (.bl z)) (by decide +kernel))


end
theorem all_mk {l : PySem.W.OpenLaw} {w : World} {K : PySem.W.Frag} {h : Heap} {mg : Str → Option Value} {fa : Addr} (X : K.In h) (G : h.Ns mainGlobals mg) (hfa : mg "law" = some (.ref fa))
    {C_Form : Addr}
    (gc_Form : PySem.W.nsIn K mainGlobals "Form" = some (some (.ref C_Form)))
    {f_dot : Addr} {od_dot an_dot : Option Addr} {sl_dot : Array (Option Value)} {oc_dot kV_dot dc_dot pm_dot cd_dot ct_dot : Value}
    (a_dot : PySem.W.nsIn K mainGlobals "dot" = some (some (.ref f_dot)))
    (l_dot : K.lookup f_dot = some ⟨oc_dot, od_dot, .func (PySem.W.fnOf "dot" "dot" (defArgs s_dot) (defBody s_dot) (defScope s_dot) .none kV_dot dc_dot pm_dot an_dot cd_dot ct_dot), sl_dot⟩)
    (c_dot : PySem.W.codeIn K cd_dot "dot" = true) (k_dot : PySem.W.keepIn K (.ref f_dot) = true)
    {f_cross : Addr} {od_cross an_cross : Option Addr} {sl_cross : Array (Option Value)} {oc_cross kV_cross dc_cross pm_cross cd_cross ct_cross : Value}
    (a_cross : PySem.W.nsIn K mainGlobals "cross" = some (some (.ref f_cross)))
    (l_cross : K.lookup f_cross = some ⟨oc_cross, od_cross, .func (PySem.W.fnOf "cross" "cross" (defArgs s_cross) (defBody s_cross) (defScope s_cross) .none kV_cross dc_cross pm_cross an_cross cd_cross ct_cross), sl_cross⟩)
    (c_cross : PySem.W.codeIn K cd_cross "cross" = true) (k_cross : PySem.W.keepIn K (.ref f_cross) = true)
    {f_transposed : Addr} {od_transposed an_transposed : Option Addr} {sl_transposed : Array (Option Value)} {oc_transposed kV_transposed dc_transposed pm_transposed cd_transposed ct_transposed : Value}
    (a_transposed : PySem.W.nsIn K mainGlobals "transposed" = some (some (.ref f_transposed)))
    (l_transposed : K.lookup f_transposed = some ⟨oc_transposed, od_transposed, .func (PySem.W.fnOf "transposed" "transposed" (defArgs s_transposed) (defBody s_transposed) (defScope s_transposed) .none kV_transposed dc_transposed pm_transposed an_transposed cd_transposed ct_transposed), sl_transposed⟩)
    (c_transposed : PySem.W.codeIn K cd_transposed "transposed" = true) (k_transposed : PySem.W.keepIn K (.ref f_transposed) = true)
    {f_image : Addr} {od_image an_image : Option Addr} {sl_image : Array (Option Value)} {oc_image kV_image dc_image pm_image cd_image ct_image : Value}
    (a_image : PySem.W.nsIn K mainGlobals "image" = some (some (.ref f_image)))
    (l_image : K.lookup f_image = some ⟨oc_image, od_image, .func (PySem.W.fnOf "image" "image" (defArgs s_image) (defBody s_image) (defScope s_image) .none kV_image dc_image pm_image an_image cd_image ct_image), sl_image⟩)
    (c_image : PySem.W.codeIn K cd_image "image" = true) (k_image : PySem.W.keepIn K (.ref f_image) = true)
    {f_determinant_of : Addr} {od_determinant_of an_determinant_of : Option Addr} {sl_determinant_of : Array (Option Value)} {oc_determinant_of kV_determinant_of dc_determinant_of pm_determinant_of cd_determinant_of ct_determinant_of : Value}
    (a_determinant_of : PySem.W.nsIn K mainGlobals "determinant_of" = some (some (.ref f_determinant_of)))
    (l_determinant_of : K.lookup f_determinant_of = some ⟨oc_determinant_of, od_determinant_of, .func (PySem.W.fnOf "determinant_of" "determinant_of" (defArgs s_determinant_of) (defBody s_determinant_of) (defScope s_determinant_of) .none kV_determinant_of dc_determinant_of pm_determinant_of an_determinant_of cd_determinant_of ct_determinant_of), sl_determinant_of⟩)
    (c_determinant_of : PySem.W.codeIn K cd_determinant_of "determinant_of" = true) (k_determinant_of : PySem.W.keepIn K (.ref f_determinant_of) = true)
    {f_adjugate_of : Addr} {od_adjugate_of an_adjugate_of : Option Addr} {sl_adjugate_of : Array (Option Value)} {oc_adjugate_of kV_adjugate_of dc_adjugate_of pm_adjugate_of cd_adjugate_of ct_adjugate_of : Value}
    (a_adjugate_of : PySem.W.nsIn K mainGlobals "adjugate_of" = some (some (.ref f_adjugate_of)))
    (l_adjugate_of : K.lookup f_adjugate_of = some ⟨oc_adjugate_of, od_adjugate_of, .func (PySem.W.fnOf "adjugate_of" "adjugate_of" (defArgs s_adjugate_of) (defBody s_adjugate_of) (defScope s_adjugate_of) .none kV_adjugate_of dc_adjugate_of pm_adjugate_of an_adjugate_of cd_adjugate_of ct_adjugate_of), sl_adjugate_of⟩)
    (c_adjugate_of : PySem.W.codeIn K cd_adjugate_of "adjugate_of" = true) (k_adjugate_of : PySem.W.keepIn K (.ref f_adjugate_of) = true)
    {f_matrix_product : Addr} {od_matrix_product an_matrix_product : Option Addr} {sl_matrix_product : Array (Option Value)} {oc_matrix_product kV_matrix_product dc_matrix_product pm_matrix_product cd_matrix_product ct_matrix_product : Value}
    (a_matrix_product : PySem.W.nsIn K mainGlobals "matrix_product" = some (some (.ref f_matrix_product)))
    (l_matrix_product : K.lookup f_matrix_product = some ⟨oc_matrix_product, od_matrix_product, .func (PySem.W.fnOf "matrix_product" "matrix_product" (defArgs s_matrix_product) (defBody s_matrix_product) (defScope s_matrix_product) .none kV_matrix_product dc_matrix_product pm_matrix_product an_matrix_product cd_matrix_product ct_matrix_product), sl_matrix_product⟩)
    (c_matrix_product : PySem.W.codeIn K cd_matrix_product "matrix_product" = true) (k_matrix_product : PySem.W.keepIn K (.ref f_matrix_product) = true)
    {f_has_inverse : Addr} {od_has_inverse an_has_inverse : Option Addr} {sl_has_inverse : Array (Option Value)} {oc_has_inverse kV_has_inverse dc_has_inverse pm_has_inverse cd_has_inverse ct_has_inverse : Value}
    (a_has_inverse : PySem.W.nsIn K mainGlobals "has_inverse" = some (some (.ref f_has_inverse)))
    (l_has_inverse : K.lookup f_has_inverse = some ⟨oc_has_inverse, od_has_inverse, .func (PySem.W.fnOf "has_inverse" "has_inverse" (defArgs s_has_inverse) (defBody s_has_inverse) (defScope s_has_inverse) .none kV_has_inverse dc_has_inverse pm_has_inverse an_has_inverse cd_has_inverse ct_has_inverse), sl_has_inverse⟩)
    (c_has_inverse : PySem.W.codeIn K cd_has_inverse "has_inverse" = true) (k_has_inverse : PySem.W.keepIn K (.ref f_has_inverse) = true)
    {f_inverse_of : Addr} {od_inverse_of an_inverse_of : Option Addr} {sl_inverse_of : Array (Option Value)} {oc_inverse_of kV_inverse_of dc_inverse_of pm_inverse_of cd_inverse_of ct_inverse_of : Value}
    (a_inverse_of : PySem.W.nsIn K mainGlobals "inverse_of" = some (some (.ref f_inverse_of)))
    (l_inverse_of : K.lookup f_inverse_of = some ⟨oc_inverse_of, od_inverse_of, .func (PySem.W.fnOf "inverse_of" "inverse_of" (defArgs s_inverse_of) (defBody s_inverse_of) (defScope s_inverse_of) .none kV_inverse_of dc_inverse_of pm_inverse_of an_inverse_of cd_inverse_of ct_inverse_of), sl_inverse_of⟩)
    (c_inverse_of : PySem.W.codeIn K cd_inverse_of "inverse_of" = true) (k_inverse_of : PySem.W.keepIn K (.ref f_inverse_of) = true)
    {f_is_whole : Addr} {od_is_whole an_is_whole : Option Addr} {sl_is_whole : Array (Option Value)} {oc_is_whole kV_is_whole dc_is_whole pm_is_whole cd_is_whole ct_is_whole : Value}
    (a_is_whole : PySem.W.nsIn K mainGlobals "is_whole" = some (some (.ref f_is_whole)))
    (l_is_whole : K.lookup f_is_whole = some ⟨oc_is_whole, od_is_whole, .func (PySem.W.fnOf "is_whole" "is_whole" (defArgs s_is_whole) (defBody s_is_whole) (defScope s_is_whole) .none kV_is_whole dc_is_whole pm_is_whole an_is_whole cd_is_whole ct_is_whole), sl_is_whole⟩)
    (c_is_whole : PySem.W.codeIn K cd_is_whole "is_whole" = true) (k_is_whole : PySem.W.keepIn K (.ref f_is_whole) = true)
    {f_is_within : Addr} {od_is_within an_is_within : Option Addr} {sl_is_within : Array (Option Value)} {oc_is_within kV_is_within dc_is_within pm_is_within cd_is_within ct_is_within : Value}
    (a_is_within : PySem.W.nsIn K mainGlobals "is_within" = some (some (.ref f_is_within)))
    (l_is_within : K.lookup f_is_within = some ⟨oc_is_within, od_is_within, .func (PySem.W.fnOf "is_within" "is_within" (defArgs s_is_within) (defBody s_is_within) (defScope s_is_within) .none kV_is_within dc_is_within pm_is_within an_is_within cd_is_within ct_is_within), sl_is_within⟩)
    (c_is_within : PySem.W.codeIn K cd_is_within "is_within" = true) (k_is_within : PySem.W.keepIn K (.ref f_is_within) = true)
    {f_products_of_images : Addr} {od_products_of_images an_products_of_images : Option Addr} {sl_products_of_images : Array (Option Value)} {oc_products_of_images kV_products_of_images dc_products_of_images pm_products_of_images cd_products_of_images ct_products_of_images : Value}
    (a_products_of_images : PySem.W.nsIn K mainGlobals "products_of_images" = some (some (.ref f_products_of_images)))
    (l_products_of_images : K.lookup f_products_of_images = some ⟨oc_products_of_images, od_products_of_images, .func (PySem.W.fnOf "products_of_images" "products_of_images" (defArgs s_products_of_images) (defBody s_products_of_images) (defScope s_products_of_images) .none kV_products_of_images dc_products_of_images pm_products_of_images an_products_of_images cd_products_of_images ct_products_of_images), sl_products_of_images⟩)
    (c_products_of_images : PySem.W.codeIn K cd_products_of_images "products_of_images" = true) (k_products_of_images : PySem.W.keepIn K (.ref f_products_of_images) = true)
    {f_is_item : Addr} {od_is_item an_is_item : Option Addr} {sl_is_item : Array (Option Value)} {oc_is_item kV_is_item dc_is_item pm_is_item cd_is_item ct_is_item : Value}
    (a_is_item : PySem.W.nsIn K mainGlobals "is_item" = some (some (.ref f_is_item)))
    (l_is_item : K.lookup f_is_item = some ⟨oc_is_item, od_is_item, .func (PySem.W.fnOf "is_item" "is_item" (defArgs s_is_item) (defBody s_is_item) (defScope s_is_item) .none kV_is_item dc_is_item pm_is_item an_is_item cd_is_item ct_is_item), sl_is_item⟩)
    (c_is_item : PySem.W.codeIn K cd_is_item "is_item" = true) (k_is_item : PySem.W.keepIn K (.ref f_is_item) = true)
    {f_is_below_zero : Addr} {od_is_below_zero an_is_below_zero : Option Addr} {sl_is_below_zero : Array (Option Value)} {oc_is_below_zero kV_is_below_zero dc_is_below_zero pm_is_below_zero cd_is_below_zero ct_is_below_zero : Value}
    (a_is_below_zero : PySem.W.nsIn K mainGlobals "is_below_zero" = some (some (.ref f_is_below_zero)))
    (l_is_below_zero : K.lookup f_is_below_zero = some ⟨oc_is_below_zero, od_is_below_zero, .func (PySem.W.fnOf "is_below_zero" "is_below_zero" (defArgs s_is_below_zero) (defBody s_is_below_zero) (defScope s_is_below_zero) .none kV_is_below_zero dc_is_below_zero pm_is_below_zero an_is_below_zero cd_is_below_zero ct_is_below_zero), sl_is_below_zero⟩)
    (c_is_below_zero : PySem.W.codeIn K cd_is_below_zero "is_below_zero" = true) (k_is_below_zero : PySem.W.keepIn K (.ref f_is_below_zero) = true)
    {f_check_form : Addr} {od_check_form an_check_form : Option Addr} {sl_check_form : Array (Option Value)} {oc_check_form kV_check_form dc_check_form pm_check_form cd_check_form ct_check_form : Value}
    (a_check_form : PySem.W.nsIn K mainGlobals "check_form" = some (some (.ref f_check_form)))
    (l_check_form : K.lookup f_check_form = some ⟨oc_check_form, od_check_form, .func (PySem.W.fnOf "check_form" "check_form" (defArgs s_check_form) (defBody s_check_form) (defScope s_check_form) .none kV_check_form dc_check_form pm_check_form an_check_form cd_check_form ct_check_form), sl_check_form⟩)
    (c_check_form : PySem.W.codeIn K cd_check_form "check_form" = true) (k_check_form : PySem.W.keepIn K (.ref f_check_form) = true)
    {f_last_of : Addr} {od_last_of an_last_of : Option Addr} {sl_last_of : Array (Option Value)} {oc_last_of kV_last_of dc_last_of pm_last_of cd_last_of ct_last_of : Value}
    (a_last_of : PySem.W.nsIn K mainGlobals "last_of" = some (some (.ref f_last_of)))
    (l_last_of : K.lookup f_last_of = some ⟨oc_last_of, od_last_of, .func (PySem.W.fnOf "last_of" "last_of" (defArgs s_last_of) (defBody s_last_of) (defScope s_last_of) .none kV_last_of dc_last_of pm_last_of an_last_of cd_last_of ct_last_of), sl_last_of⟩)
    (c_last_of : PySem.W.codeIn K cd_last_of "last_of" = true) (k_last_of : PySem.W.keepIn K (.ref f_last_of) = true)
    {f_Form__init_ : Addr} {od_Form__init_ an_Form__init_ : Option Addr} {sl_Form__init_ : Array (Option Value)} {oc_Form__init_ kV_Form__init_ dc_Form__init_ pm_Form__init_ cd_Form__init_ ct_Form__init_ : Value}
    (a_Form__init_ : PySem.W.findIn K (.ref C_Form) "__init__" = some (some (.ref f_Form__init_)))
    (l_Form__init_ : K.lookup f_Form__init_ = some ⟨oc_Form__init_, od_Form__init_, .func (PySem.W.fnOf "__init__" "Form.__init__" (defArgs s_Form__init_) (defBody s_Form__init_) (defScope s_Form__init_) .none kV_Form__init_ dc_Form__init_ pm_Form__init_ an_Form__init_ cd_Form__init_ ct_Form__init_), sl_Form__init_⟩)
    (c_Form__init_ : PySem.W.codeIn K cd_Form__init_ "Form.__init__" = true) (k_Form__init_ : PySem.W.keepIn K (.ref f_Form__init_) = true)
    {f_Form_product : Addr} {od_Form_product an_Form_product : Option Addr} {sl_Form_product : Array (Option Value)} {oc_Form_product kV_Form_product dc_Form_product pm_Form_product cd_Form_product ct_Form_product : Value}
    (a_Form_product : PySem.W.findIn K (.ref C_Form) "product" = some (some (.ref f_Form_product)))
    (l_Form_product : K.lookup f_Form_product = some ⟨oc_Form_product, od_Form_product, .func (PySem.W.fnOf "product" "Form.product" (defArgs s_Form_product) (defBody s_Form_product) (defScope s_Form_product) .none kV_Form_product dc_Form_product pm_Form_product an_Form_product cd_Form_product ct_Form_product), sl_Form_product⟩)
    (c_Form_product : PySem.W.codeIn K cd_Form_product "Form.product" = true) (k_Form_product : PySem.W.keepIn K (.ref f_Form_product) = true)
    {f_Form_moved : Addr} {od_Form_moved an_Form_moved : Option Addr} {sl_Form_moved : Array (Option Value)} {oc_Form_moved kV_Form_moved dc_Form_moved pm_Form_moved cd_Form_moved ct_Form_moved : Value}
    (a_Form_moved : PySem.W.findIn K (.ref C_Form) "moved" = some (some (.ref f_Form_moved)))
    (l_Form_moved : K.lookup f_Form_moved = some ⟨oc_Form_moved, od_Form_moved, .func (PySem.W.fnOf "moved" "Form.moved" (defArgs s_Form_moved) (defBody s_Form_moved) (defScope s_Form_moved) .none kV_Form_moved dc_Form_moved pm_Form_moved an_Form_moved cd_Form_moved ct_Form_moved), sl_Form_moved⟩)
    (c_Form_moved : PySem.W.codeIn K cd_Form_moved "Form.moved" = true) (k_Form_moved : PySem.W.keepIn K (.ref f_Form_moved) = true)
    {f_law_draws : Addr} {od_law_draws an_law_draws : Option Addr} {sl_law_draws : Array (Option Value)} {oc_law_draws kV_law_draws dc_law_draws pm_law_draws cd_law_draws ct_law_draws : Value}
    (a_law_draws : PySem.W.nsIn K mainGlobals "_law_draws" = some (some (.ref f_law_draws)))
    (l_law_draws : K.lookup f_law_draws = some ⟨oc_law_draws, od_law_draws, .func (PySem.W.fnOf "_law_draws" "_law_draws" (defArgs s_law_draws) (defBody s_law_draws) (defScope s_law_draws) .none kV_law_draws dc_law_draws pm_law_draws an_law_draws cd_law_draws ct_law_draws), sl_law_draws⟩)
    (c_law_draws : PySem.W.codeIn K cd_law_draws "_law_draws" = true) (k_law_draws : PySem.W.keepIn K (.ref f_law_draws) = true)
    {f_law_image : Addr} {od_law_image an_law_image : Option Addr} {sl_law_image : Array (Option Value)} {oc_law_image kV_law_image dc_law_image pm_law_image cd_law_image ct_law_image : Value}
    (a_law_image : PySem.W.nsIn K mainGlobals "_law_image" = some (some (.ref f_law_image)))
    (l_law_image : K.lookup f_law_image = some ⟨oc_law_image, od_law_image, .func (PySem.W.fnOf "_law_image" "_law_image" (defArgs s_law_image) (defBody s_law_image) (defScope s_law_image) .none kV_law_image dc_law_image pm_law_image an_law_image cd_law_image ct_law_image), sl_law_image⟩)
    (c_law_image : PySem.W.codeIn K cd_law_image "_law_image" = true) (k_law_image : PySem.W.keepIn K (.ref f_law_image) = true)
    {f_law_times : Addr} {od_law_times an_law_times : Option Addr} {sl_law_times : Array (Option Value)} {oc_law_times kV_law_times dc_law_times pm_law_times cd_law_times ct_law_times : Value}
    (a_law_times : PySem.W.nsIn K mainGlobals "_law_times" = some (some (.ref f_law_times)))
    (l_law_times : K.lookup f_law_times = some ⟨oc_law_times, od_law_times, .func (PySem.W.fnOf "_law_times" "_law_times" (defArgs s_law_times) (defBody s_law_times) (defScope s_law_times) .none kV_law_times dc_law_times pm_law_times an_law_times cd_law_times ct_law_times), sl_law_times⟩)
    (c_law_times : PySem.W.codeIn K cd_law_times "_law_times" = true) (k_law_times : PySem.W.keepIn K (.ref f_law_times) = true)
    {f_law_det : Addr} {od_law_det an_law_det : Option Addr} {sl_law_det : Array (Option Value)} {oc_law_det kV_law_det dc_law_det pm_law_det cd_law_det ct_law_det : Value}
    (a_law_det : PySem.W.nsIn K mainGlobals "_law_det" = some (some (.ref f_law_det)))
    (l_law_det : K.lookup f_law_det = some ⟨oc_law_det, od_law_det, .func (PySem.W.fnOf "_law_det" "_law_det" (defArgs s_law_det) (defBody s_law_det) (defScope s_law_det) .none kV_law_det dc_law_det pm_law_det an_law_det cd_law_det ct_law_det), sl_law_det⟩)
    (c_law_det : PySem.W.codeIn K cd_law_det "_law_det" = true) (k_law_det : PySem.W.keepIn K (.ref f_law_det) = true)
    {f_law_row : Addr} {od_law_row an_law_row : Option Addr} {sl_law_row : Array (Option Value)} {oc_law_row kV_law_row dc_law_row pm_law_row cd_law_row ct_law_row : Value}
    (a_law_row : PySem.W.nsIn K mainGlobals "_law_row" = some (some (.ref f_law_row)))
    (l_law_row : K.lookup f_law_row = some ⟨oc_law_row, od_law_row, .func (PySem.W.fnOf "_law_row" "_law_row" (defArgs s_law_row) (defBody s_law_row) (defScope s_law_row) .none kV_law_row dc_law_row pm_law_row an_law_row cd_law_row ct_law_row), sl_law_row⟩)
    (c_law_row : PySem.W.codeIn K cd_law_row "_law_row" = true) (k_law_row : PySem.W.keepIn K (.ref f_law_row) = true)
    {f_law_steps : Addr} {od_law_steps an_law_steps : Option Addr} {sl_law_steps : Array (Option Value)} {oc_law_steps kV_law_steps dc_law_steps pm_law_steps cd_law_steps ct_law_steps : Value}
    (a_law_steps : PySem.W.nsIn K mainGlobals "_law_steps" = some (some (.ref f_law_steps)))
    (l_law_steps : K.lookup f_law_steps = some ⟨oc_law_steps, od_law_steps, .func (PySem.W.fnOf "_law_steps" "_law_steps" (defArgs s_law_steps) (defBody s_law_steps) (defScope s_law_steps) .none kV_law_steps dc_law_steps pm_law_steps an_law_steps cd_law_steps ct_law_steps), sl_law_steps⟩)
    (c_law_steps : PySem.W.codeIn K cd_law_steps "_law_steps" = true) (k_law_steps : PySem.W.keepIn K (.ref f_law_steps) = true)
    {f_law_product : Addr} {od_law_product an_law_product : Option Addr} {sl_law_product : Array (Option Value)} {oc_law_product kV_law_product dc_law_product pm_law_product cd_law_product ct_law_product : Value}
    (a_law_product : PySem.W.nsIn K mainGlobals "_law_product" = some (some (.ref f_law_product)))
    (l_law_product : K.lookup f_law_product = some ⟨oc_law_product, od_law_product, .func (PySem.W.fnOf "_law_product" "_law_product" (defArgs s_law_product) (defBody s_law_product) (defScope s_law_product) .none kV_law_product dc_law_product pm_law_product an_law_product cd_law_product ct_law_product), sl_law_product⟩)
    (c_law_product : PySem.W.codeIn K cd_law_product "_law_product" = true) (k_law_product : PySem.W.keepIn K (.ref f_law_product) = true)
    {f_law_turned : Addr} {od_law_turned an_law_turned : Option Addr} {sl_law_turned : Array (Option Value)} {oc_law_turned kV_law_turned dc_law_turned pm_law_turned cd_law_turned ct_law_turned : Value}
    (a_law_turned : PySem.W.nsIn K mainGlobals "_law_turned" = some (some (.ref f_law_turned)))
    (l_law_turned : K.lookup f_law_turned = some ⟨oc_law_turned, od_law_turned, .func (PySem.W.fnOf "_law_turned" "_law_turned" (defArgs s_law_turned) (defBody s_law_turned) (defScope s_law_turned) .none kV_law_turned dc_law_turned pm_law_turned an_law_turned cd_law_turned ct_law_turned), sl_law_turned⟩)
    (c_law_turned : PySem.W.codeIn K cd_law_turned "_law_turned" = true) (k_law_turned : PySem.W.keepIn K (.ref f_law_turned) = true)
    {f_law_menu : Addr} {od_law_menu an_law_menu : Option Addr} {sl_law_menu : Array (Option Value)} {oc_law_menu kV_law_menu dc_law_menu pm_law_menu cd_law_menu ct_law_menu : Value}
    (a_law_menu : PySem.W.nsIn K mainGlobals "_law_menu" = some (some (.ref f_law_menu)))
    (l_law_menu : K.lookup f_law_menu = some ⟨oc_law_menu, od_law_menu, .func (PySem.W.fnOf "_law_menu" "_law_menu" (defArgs s_law_menu) (defBody s_law_menu) (defScope s_law_menu) .none kV_law_menu dc_law_menu pm_law_menu an_law_menu cd_law_menu ct_law_menu), sl_law_menu⟩)
    (c_law_menu : PySem.W.codeIn K cd_law_menu "_law_menu" = true) (k_law_menu : PySem.W.keepIn K (.ref f_law_menu) = true)
    {f_law_table : Addr} {od_law_table an_law_table : Option Addr} {sl_law_table : Array (Option Value)} {oc_law_table kV_law_table dc_law_table pm_law_table cd_law_table ct_law_table : Value}
    (a_law_table : PySem.W.nsIn K mainGlobals "_law_table" = some (some (.ref f_law_table)))
    (l_law_table : K.lookup f_law_table = some ⟨oc_law_table, od_law_table, .func (PySem.W.fnOf "_law_table" "_law_table" (defArgs s_law_table) (defBody s_law_table) (defScope s_law_table) .none kV_law_table dc_law_table pm_law_table an_law_table cd_law_table ct_law_table), sl_law_table⟩)
    (c_law_table : PySem.W.codeIn K cd_law_table "_law_table" = true) (k_law_table : PySem.W.keepIn K (.ref f_law_table) = true)
    {f_law_found : Addr} {od_law_found an_law_found : Option Addr} {sl_law_found : Array (Option Value)} {oc_law_found kV_law_found dc_law_found pm_law_found cd_law_found ct_law_found : Value}
    (a_law_found : PySem.W.nsIn K mainGlobals "_law_found" = some (some (.ref f_law_found)))
    (l_law_found : K.lookup f_law_found = some ⟨oc_law_found, od_law_found, .func (PySem.W.fnOf "_law_found" "_law_found" (defArgs s_law_found) (defBody s_law_found) (defScope s_law_found) .none kV_law_found dc_law_found pm_law_found an_law_found cd_law_found ct_law_found), sl_law_found⟩)
    (c_law_found : PySem.W.codeIn K cd_law_found "_law_found" = true) (k_law_found : PySem.W.keepIn K (.ref f_law_found) = true)
    {f_law : Addr} {od_law an_law : Option Addr} {sl_law : Array (Option Value)} {oc_law kV_law dc_law pm_law cd_law ct_law : Value}
    (a_law : PySem.W.nsIn K mainGlobals "law" = some (some (.ref f_law)))
    (l_law : K.lookup f_law = some ⟨oc_law, od_law, .func (PySem.W.fnOf "law" "law" (defArgs s_law) (defBody s_law) (defScope s_law) .none kV_law dc_law pm_law an_law cd_law ct_law), sl_law⟩)
    (c_law : PySem.W.codeIn K cd_law "law" = true) (k_law : PySem.W.keepIn K (.ref f_law) = true)
    (z_abs : PySem.W.nsIn K mainGlobals "abs" = some none)
    (z_isinstance : PySem.W.nsIn K mainGlobals "isinstance" = some none)
    (z_bool : PySem.W.nsIn K mainGlobals "bool" = some none)
    (z_int : PySem.W.nsIn K mainGlobals "int" = some none)
    (z_all : PySem.W.nsIn K mainGlobals "all" = some none)
    (z_range : PySem.W.nsIn K mainGlobals "range" = some none)
    (z_len : PySem.W.nsIn K mainGlobals "len" = some none)
    (z_tuple : PySem.W.nsIn K mainGlobals "tuple" = some none)
    (z_max : PySem.W.nsIn K mainGlobals "max" = some none)
    (z_list : PySem.W.nsIn K mainGlobals "list" = some none)
    {C_BadMatrix : Addr} (ga_BadMatrix : PySem.W.nsIn K mainGlobals "BadMatrix" = some (some (.ref C_BadMatrix))) (x_BadMatrix : PySem.W.excIn K C_BadMatrix [.type "ValueError", .type "Exception", .type "BaseException", .type "object"] "ValueError.__new__" = true) (kc_BadMatrix : PySem.W.keepIn K (.ref C_BadMatrix) = true) (bc_BadMatrix : PySem.W.subIn K (.ref C_BadMatrix) (.type "BaseException") = some true) (tc_BadMatrix : PySem.W.typeIn K (.ref C_BadMatrix) = some (.type "type")) (ic_BadMatrix : PySem.W.hasDictIn K C_BadMatrix = true)
    {C_BadForm : Addr} (ga_BadForm : PySem.W.nsIn K mainGlobals "BadForm" = some (some (.ref C_BadForm))) (x_BadForm : PySem.W.excIn K C_BadForm [.type "ValueError", .type "Exception", .type "BaseException", .type "object"] "ValueError.__new__" = true) (kc_BadForm : PySem.W.keepIn K (.ref C_BadForm) = true) (bc_BadForm : PySem.W.subIn K (.ref C_BadForm) (.type "BaseException") = some true) (tc_BadForm : PySem.W.typeIn K (.ref C_BadForm) = some (.type "type")) (ic_BadForm : PySem.W.hasDictIn K C_BadForm = true)
    {C_ConeroomError : Addr} (ga_ConeroomError : PySem.W.nsIn K mainGlobals "ConeroomError" = some (some (.ref C_ConeroomError))) (x_ConeroomError : PySem.W.excIn K C_ConeroomError [.type "ValueError", .type "Exception", .type "BaseException", .type "object"] "ValueError.__new__" = true) (kc_ConeroomError : PySem.W.keepIn K (.ref C_ConeroomError) = true) (bc_ConeroomError : PySem.W.subIn K (.ref C_ConeroomError) (.type "BaseException") = some true) (tc_ConeroomError : PySem.W.typeIn K (.ref C_ConeroomError) = some (.type "type")) (ic_ConeroomError : PySem.W.hasDictIn K C_ConeroomError = true)
    (hg_BadMatrix : PySem.W.findIn K (.ref C_BadMatrix) "__getattribute__" = some (some (.builtin "BaseException.__getattribute__")))
    (hk_BadMatrix : PySem.W.findIn K (.ref C_BadMatrix) "__getattr__" = some none)
    (ha_BadMatrix : PySem.W.findIn K (.ref C_BadMatrix) "__class__" = some (some (.builtin "object.__class__")))
    (hn_BadMatrix : PySem.W.specialIn K (.builtin "object.__class__") "__get__" = some (some (.builtin "getset_descriptor.__get__")))
    (ht_BadMatrix : PySem.W.takesIn K (.builtin "object.__class__") = some true)
    (hm_BadMatrix : PySem.W.mroIn K C_BadMatrix (.type "object") = some true)
    (hg_BadForm : PySem.W.findIn K (.ref C_BadForm) "__getattribute__" = some (some (.builtin "BaseException.__getattribute__")))
    (hk_BadForm : PySem.W.findIn K (.ref C_BadForm) "__getattr__" = some none)
    (ha_BadForm : PySem.W.findIn K (.ref C_BadForm) "__class__" = some (some (.builtin "object.__class__")))
    (hn_BadForm : PySem.W.specialIn K (.builtin "object.__class__") "__get__" = some (some (.builtin "getset_descriptor.__get__")))
    (ht_BadForm : PySem.W.takesIn K (.builtin "object.__class__") = some true)
    (hm_BadForm : PySem.W.mroIn K C_BadForm (.type "object") = some true)
    (s_BadMatrix_ConeroomError : PySem.W.subIn K (.ref C_BadMatrix) (.ref C_ConeroomError) = some true)
    (s_BadForm_ConeroomError : PySem.W.subIn K (.ref C_BadForm) (.ref C_ConeroomError) = some true)
    (ss_BadMatrix : PySem.W.subIn K (.ref C_BadMatrix) (.ref C_BadMatrix) = some true)
    (kt_BadMatrix_BadMatrix : PySem.W.subIn K (.ref C_BadMatrix) (.ref C_BadMatrix) = some true)
    (kt_BadMatrix_BadForm : PySem.W.subIn K (.ref C_BadMatrix) (.ref C_BadForm) = some false)
    (ss_BadForm : PySem.W.subIn K (.ref C_BadForm) (.ref C_BadForm) = some true)
    (kt_BadForm_BadMatrix : PySem.W.subIn K (.ref C_BadForm) (.ref C_BadMatrix) = some false)
    (kt_BadForm_BadForm : PySem.W.subIn K (.ref C_BadForm) (.ref C_BadForm) = some true)
    {v_GREATEST_ITEM : Tok} (cc_GREATEST_ITEM : PySem.W.nsIn K mainGlobals "GREATEST_ITEM" = some (some (.int (1000) v_GREATEST_ITEM)))
    {v_LEAST_DETERMINANT : Tok} (cc_LEAST_DETERMINANT : PySem.W.nsIn K mainGlobals "LEAST_DETERMINANT" = some (some (.int (-500) v_LEAST_DETERMINANT)))
    (z_gcd : PySem.W.nsIn K mainGlobals "gcd" = some (some (.builtin "math.gcd")))
    (pg_Form : PySem.W.plainGet K C_Form Str.empty = true) (hd_Form : PySem.W.hasDictIn K C_Form = true) (po_Form : PySem.W.plainOver K C_Form = true) (sa_Form : PySem.W.findIn K (.ref C_Form) "__setattr__" = some (some (.builtin "object.__setattr__"))) (mk_Form : PySem.W.makesIn K C_Form = true) (kp_Form : PySem.W.keepIn K (.ref C_Form) = true)
    (na_Form_table : PySem.W.findIn K (.ref C_Form) "table" = some none)
    (na_Form_determinant : PySem.W.findIn K (.ref C_Form) "determinant" = some none)
    (na_Form_last : PySem.W.findIn K (.ref C_Form) "last" = some none)
    (if_Form__init_ : PySem.W.isFn K (.ref f_Form__init_) = true)
    (if_Form_product : PySem.W.isFn K (.ref f_Form_product) = true)
    (if_Form_moved : PySem.W.isFn K (.ref f_Form_moved) = true)
    (ia_Form : PySem.W.findIn K (.ref C_Form) "__class__" = some (some (.builtin "object.__class__")))
    (in_Form : PySem.W.specialIn K (.builtin "object.__class__") "__get__" = some (some (.builtin "getset_descriptor.__get__")))
    (it_Form : PySem.W.takesIn K (.builtin "object.__class__") = some true)
    (im_Form : PySem.W.mroIn K C_Form (.type "object") = some true)
    (qe_Form : PySem.W.findIn K (.ref C_Form) "__eq__" = some (some (.builtin "object.__eq__"))) (qs_Form : PySem.W.subIn K (.type "str") (.ref C_Form) = some false)
    (ks_Form_list : PySem.W.subIn K (.ref C_Form) (.type "list") = some false) :
    ∃ fd : FuncData, (∀ (s : Shared) (v : Value), BindsTo s fd ⟨[v], []⟩ [("script", v)]) ∧ ∀ base : Heap, K.In base → base.Ns mainGlobals mg → FnOk l.prog w K mg base CX0 9 fa fd ["script"] (spLaw K) := by
  have e := hfa.symm.trans (PySem.W.mg_of X G a_law)
  cases e
  have F_dot := fun_mk (st := s_dot) l_dot c_dot k_dot
  have b_dot := F_dot.binds (ps := ["first", "second"]) fun _ _ _ _ _ _ us hl => match us, hl with | [_, _], _ => rfl
  have F_cross := fun_mk (st := s_cross) l_cross c_cross k_cross
  have b_cross := F_cross.binds (ps := ["first", "second"]) fun _ _ _ _ _ _ us hl => match us, hl with | [_, _], _ => rfl
  have F_transposed := fun_mk (st := s_transposed) l_transposed c_transposed k_transposed
  have b_transposed := F_transposed.binds (ps := ["matrix"]) fun _ _ _ _ _ _ us hl => match us, hl with | [_], _ => rfl
  have F_image := fun_mk (st := s_image) l_image c_image k_image
  have b_image := F_image.binds (ps := ["matrix", "row"]) fun _ _ _ _ _ _ us hl => match us, hl with | [_, _], _ => rfl
  have F_determinant_of := fun_mk (st := s_determinant_of) l_determinant_of c_determinant_of k_determinant_of
  have b_determinant_of := F_determinant_of.binds (ps := ["matrix"]) fun _ _ _ _ _ _ us hl => match us, hl with | [_], _ => rfl
  have F_adjugate_of := fun_mk (st := s_adjugate_of) l_adjugate_of c_adjugate_of k_adjugate_of
  have b_adjugate_of := F_adjugate_of.binds (ps := ["matrix"]) fun _ _ _ _ _ _ us hl => match us, hl with | [_], _ => rfl
  have F_matrix_product := fun_mk (st := s_matrix_product) l_matrix_product c_matrix_product k_matrix_product
  have b_matrix_product := F_matrix_product.binds (ps := ["first", "second"]) fun _ _ _ _ _ _ us hl => match us, hl with | [_, _], _ => rfl
  have F_has_inverse := fun_mk (st := s_has_inverse) l_has_inverse c_has_inverse k_has_inverse
  have b_has_inverse := F_has_inverse.binds (ps := ["matrix"]) fun _ _ _ _ _ _ us hl => match us, hl with | [_], _ => rfl
  have F_inverse_of := fun_mk (st := s_inverse_of) l_inverse_of c_inverse_of k_inverse_of
  have b_inverse_of := F_inverse_of.binds (ps := ["matrix"]) fun _ _ _ _ _ _ us hl => match us, hl with | [_], _ => rfl
  have F_is_whole := fun_mk (st := s_is_whole) l_is_whole c_is_whole k_is_whole
  have b_is_whole := F_is_whole.binds (ps := ["value"]) fun _ _ _ _ _ _ us hl => match us, hl with | [_], _ => rfl
  have F_is_within := fun_mk (st := s_is_within) l_is_within c_is_within k_is_within
  have b_is_within := F_is_within.binds (ps := ["value", "least", "greatest"]) fun _ _ _ _ _ _ us hl => match us, hl with | [_, _, _], _ => rfl
  have F_products_of_images := fun_mk (st := s_products_of_images) l_products_of_images c_products_of_images k_products_of_images
  have b_products_of_images := F_products_of_images.binds (ps := ["table", "matrix"]) fun _ _ _ _ _ _ us hl => match us, hl with | [_, _], _ => rfl
  have F_is_item := fun_mk (st := s_is_item) l_is_item c_is_item k_is_item
  have b_is_item := F_is_item.binds (ps := ["value"]) fun _ _ _ _ _ _ us hl => match us, hl with | [_], _ => rfl
  have F_is_below_zero := fun_mk (st := s_is_below_zero) l_is_below_zero c_is_below_zero k_is_below_zero
  have b_is_below_zero := F_is_below_zero.binds (ps := ["table"]) fun _ _ _ _ _ _ us hl => match us, hl with | [_], _ => rfl
  have F_check_form := fun_mk (st := s_check_form) l_check_form c_check_form k_check_form
  have b_check_form := F_check_form.binds (ps := ["table"]) fun _ _ _ _ _ _ us hl => match us, hl with | [_], _ => rfl
  have F_last_of := fun_mk (st := s_last_of) l_last_of c_last_of k_last_of
  have b_last_of := F_last_of.binds (ps := ["table"]) fun _ _ _ _ _ _ us hl => match us, hl with | [_], _ => rfl
  have F_Form__init_ := fun_mk (st := s_Form__init_) l_Form__init_ c_Form__init_ k_Form__init_
  have b_Form__init_ := F_Form__init_.binds (ps := ["self", "table"]) fun _ _ _ _ _ _ us hl => match us, hl with | [_, _], _ => rfl
  have F_Form_product := fun_mk (st := s_Form_product) l_Form_product c_Form_product k_Form_product
  have b_Form_product := F_Form_product.binds (ps := ["self", "v", "w"]) fun _ _ _ _ _ _ us hl => match us, hl with | [_, _, _], _ => rfl
  have F_Form_moved := fun_mk (st := s_Form_moved) l_Form_moved c_Form_moved k_Form_moved
  have b_Form_moved := F_Form_moved.binds (ps := ["self", "matrix"]) fun _ _ _ _ _ _ us hl => match us, hl with | [_, _], _ => rfl
  have F_law_draws := fun_mk (st := s_law_draws) l_law_draws c_law_draws k_law_draws
  have b_law_draws := F_law_draws.binds (ps := ["script", "many"]) fun _ _ _ _ _ _ us hl => match us, hl with | [_, _], _ => rfl
  have F_law_image := fun_mk (st := s_law_image) l_law_image c_law_image k_law_image
  have b_law_image := F_law_image.binds (ps := ["matrix", "row"]) fun _ _ _ _ _ _ us hl => match us, hl with | [_, _], _ => rfl
  have F_law_times := fun_mk (st := s_law_times) l_law_times c_law_times k_law_times
  have b_law_times := F_law_times.binds (ps := ["first", "second"]) fun _ _ _ _ _ _ us hl => match us, hl with | [_, _], _ => rfl
  have F_law_det := fun_mk (st := s_law_det) l_law_det c_law_det k_law_det
  have b_law_det := F_law_det.binds (ps := ["m"]) fun _ _ _ _ _ _ us hl => match us, hl with | [_], _ => rfl
  have F_law_row := fun_mk (st := s_law_row) l_law_row c_law_row k_law_row
  have b_law_row := F_law_row.binds (ps := ["draws", "most"]) fun _ _ _ _ _ _ us hl => match us, hl with | [_, _], _ => rfl
  have F_law_steps := fun_mk (st := s_law_steps) l_law_steps c_law_steps k_law_steps
  have b_law_steps := F_law_steps.binds (ps := ["draws", "many"]) fun _ _ _ _ _ _ us hl => match us, hl with | [_, _], _ => rfl
  have F_law_product := fun_mk (st := s_law_product) l_law_product c_law_product k_law_product
  have b_law_product := F_law_product.binds (ps := ["table", "v", "w"]) fun _ _ _ _ _ _ us hl => match us, hl with | [_, _, _], _ => rfl
  have F_law_turned := fun_mk (st := s_law_turned) l_law_turned c_law_turned k_law_turned
  have b_law_turned := F_law_turned.binds (ps := ["matrix"]) fun _ _ _ _ _ _ us hl => match us, hl with | [_], _ => rfl
  have F_law_menu := fun_mk (st := s_law_menu) l_law_menu c_law_menu k_law_menu
  have b_law_menu := F_law_menu.binds (ps := []) fun _ _ _ _ _ _ us hl => match us, hl with | [], _ => rfl
  have F_law_table := fun_mk (st := s_law_table) l_law_table c_law_table k_law_table
  have b_law_table := F_law_table.binds (ps := ["draws"]) fun _ _ _ _ _ _ us hl => match us, hl with | [_], _ => rfl
  have F_law_found := fun_mk (st := s_law_found) l_law_found c_law_found k_law_found
  have b_law_found := F_law_found.binds (ps := ["form", "matrix"]) fun _ _ _ _ _ _ us hl => match us, hl with | [_, _], _ => rfl
  have F_law := fun_mk (st := s_law) l_law c_law k_law
  have T : Txt K mg := { a_dot := f_dot, fd_dot := _, F_dot := F_dot, b_dot := b_dot, g_dot := PySem.W.mg_of X G a_dot, a_cross := f_cross, fd_cross := _, F_cross := F_cross, b_cross := b_cross, g_cross := PySem.W.mg_of X G a_cross, a_transposed := f_transposed, fd_transposed := _, F_transposed := F_transposed, b_transposed := b_transposed, g_transposed := PySem.W.mg_of X G a_transposed, a_image := f_image, fd_image := _, F_image := F_image, b_image := b_image, g_image := PySem.W.mg_of X G a_image, a_determinant_of := f_determinant_of, fd_determinant_of := _, F_determinant_of := F_determinant_of, b_determinant_of := b_determinant_of, g_determinant_of := PySem.W.mg_of X G a_determinant_of, a_adjugate_of := f_adjugate_of, fd_adjugate_of := _, F_adjugate_of := F_adjugate_of, b_adjugate_of := b_adjugate_of, g_adjugate_of := PySem.W.mg_of X G a_adjugate_of, a_matrix_product := f_matrix_product, fd_matrix_product := _, F_matrix_product := F_matrix_product, b_matrix_product := b_matrix_product, g_matrix_product := PySem.W.mg_of X G a_matrix_product, a_has_inverse := f_has_inverse, fd_has_inverse := _, F_has_inverse := F_has_inverse, b_has_inverse := b_has_inverse, g_has_inverse := PySem.W.mg_of X G a_has_inverse, a_inverse_of := f_inverse_of, fd_inverse_of := _, F_inverse_of := F_inverse_of, b_inverse_of := b_inverse_of, g_inverse_of := PySem.W.mg_of X G a_inverse_of, a_is_whole := f_is_whole, fd_is_whole := _, F_is_whole := F_is_whole, b_is_whole := b_is_whole, g_is_whole := PySem.W.mg_of X G a_is_whole, a_is_within := f_is_within, fd_is_within := _, F_is_within := F_is_within, b_is_within := b_is_within, g_is_within := PySem.W.mg_of X G a_is_within, a_products_of_images := f_products_of_images, fd_products_of_images := _, F_products_of_images := F_products_of_images, b_products_of_images := b_products_of_images, g_products_of_images := PySem.W.mg_of X G a_products_of_images, a_is_item := f_is_item, fd_is_item := _, F_is_item := F_is_item, b_is_item := b_is_item, g_is_item := PySem.W.mg_of X G a_is_item, a_is_below_zero := f_is_below_zero, fd_is_below_zero := _, F_is_below_zero := F_is_below_zero, b_is_below_zero := b_is_below_zero, g_is_below_zero := PySem.W.mg_of X G a_is_below_zero, a_check_form := f_check_form, fd_check_form := _, F_check_form := F_check_form, b_check_form := b_check_form, g_check_form := PySem.W.mg_of X G a_check_form, a_last_of := f_last_of, fd_last_of := _, F_last_of := F_last_of, b_last_of := b_last_of, g_last_of := PySem.W.mg_of X G a_last_of, a_Form__init_ := f_Form__init_, fd_Form__init_ := _, F_Form__init_ := F_Form__init_, b_Form__init_ := b_Form__init_, a_Form_product := f_Form_product, fd_Form_product := _, F_Form_product := F_Form_product, b_Form_product := b_Form_product, a_Form_moved := f_Form_moved, fd_Form_moved := _, F_Form_moved := F_Form_moved, b_Form_moved := b_Form_moved, a_law_draws := f_law_draws, fd_law_draws := _, F_law_draws := F_law_draws, b_law_draws := b_law_draws, g_law_draws := PySem.W.mg_of X G a_law_draws, a_law_image := f_law_image, fd_law_image := _, F_law_image := F_law_image, b_law_image := b_law_image, g_law_image := PySem.W.mg_of X G a_law_image, a_law_times := f_law_times, fd_law_times := _, F_law_times := F_law_times, b_law_times := b_law_times, g_law_times := PySem.W.mg_of X G a_law_times, a_law_det := f_law_det, fd_law_det := _, F_law_det := F_law_det, b_law_det := b_law_det, g_law_det := PySem.W.mg_of X G a_law_det, a_law_row := f_law_row, fd_law_row := _, F_law_row := F_law_row, b_law_row := b_law_row, g_law_row := PySem.W.mg_of X G a_law_row, a_law_steps := f_law_steps, fd_law_steps := _, F_law_steps := F_law_steps, b_law_steps := b_law_steps, g_law_steps := PySem.W.mg_of X G a_law_steps, a_law_product := f_law_product, fd_law_product := _, F_law_product := F_law_product, b_law_product := b_law_product, g_law_product := PySem.W.mg_of X G a_law_product, a_law_turned := f_law_turned, fd_law_turned := _, F_law_turned := F_law_turned, b_law_turned := b_law_turned, g_law_turned := PySem.W.mg_of X G a_law_turned, a_law_menu := f_law_menu, fd_law_menu := _, F_law_menu := F_law_menu, b_law_menu := b_law_menu, g_law_menu := PySem.W.mg_of X G a_law_menu, a_law_table := f_law_table, fd_law_table := _, F_law_table := F_law_table, b_law_table := b_law_table, g_law_table := PySem.W.mg_of X G a_law_table, a_law_found := f_law_found, fd_law_found := _, F_law_found := F_law_found, b_law_found := b_law_found, g_law_found := PySem.W.mg_of X G a_law_found, z_abs := PySem.W.mg_none_of X G z_abs, z_isinstance := PySem.W.mg_none_of X G z_isinstance, z_bool := PySem.W.mg_none_of X G z_bool, z_int := PySem.W.mg_none_of X G z_int, z_all := PySem.W.mg_none_of X G z_all, z_range := PySem.W.mg_none_of X G z_range, z_len := PySem.W.mg_none_of X G z_len, z_tuple := PySem.W.mg_none_of X G z_tuple, z_max := PySem.W.mg_none_of X G z_max, z_list := PySem.W.mg_none_of X G z_list, C_BadMatrix := C_BadMatrix, g_BadMatrix := PySem.W.mg_of X G ga_BadMatrix, x_BadMatrix := x_BadMatrix, k_BadMatrix := kc_BadMatrix, b_BadMatrix := bc_BadMatrix, t_BadMatrix := tc_BadMatrix, h_BadMatrix := ic_BadMatrix, C_BadForm := C_BadForm, g_BadForm := PySem.W.mg_of X G ga_BadForm, x_BadForm := x_BadForm, k_BadForm := kc_BadForm, b_BadForm := bc_BadForm, t_BadForm := tc_BadForm, h_BadForm := ic_BadForm, C_ConeroomError := C_ConeroomError, g_ConeroomError := PySem.W.mg_of X G ga_ConeroomError, x_ConeroomError := x_ConeroomError, k_ConeroomError := kc_ConeroomError, b_ConeroomError := bc_ConeroomError, t_ConeroomError := tc_ConeroomError, h_ConeroomError := ic_ConeroomError, E_BadMatrix := ⟨hg_BadMatrix, hk_BadMatrix, bc_BadMatrix, ic_BadMatrix, ha_BadMatrix, hn_BadMatrix, ht_BadMatrix, hm_BadMatrix⟩, E_BadForm := ⟨hg_BadForm, hk_BadForm, bc_BadForm, ic_BadForm, ha_BadForm, hn_BadForm, ht_BadForm, hm_BadForm⟩, m_BadMatrix_ConeroomError := PySem.W.exm_ref bc_ConeroomError ic_ConeroomError tc_ConeroomError s_BadMatrix_ConeroomError, m_BadForm_ConeroomError := PySem.W.exm_ref bc_ConeroomError ic_ConeroomError tc_ConeroomError s_BadForm_ConeroomError, k_BadMatrix_BadMatrix := kit_ref ss_BadMatrix kt_BadMatrix_BadMatrix ic_BadMatrix tc_BadMatrix, k_BadMatrix_BadForm := kit_ref ss_BadMatrix kt_BadMatrix_BadForm ic_BadForm tc_BadForm, k_BadForm_BadMatrix := kit_ref ss_BadForm kt_BadForm_BadMatrix ic_BadMatrix tc_BadMatrix, k_BadForm_BadForm := kit_ref ss_BadForm kt_BadForm_BadForm ic_BadForm tc_BadForm, v_GREATEST_ITEM := v_GREATEST_ITEM, c_GREATEST_ITEM := PySem.W.mg_of X G cc_GREATEST_ITEM, v_LEAST_DETERMINANT := v_LEAST_DETERMINANT, c_LEAST_DETERMINANT := PySem.W.mg_of X G cc_LEAST_DETERMINANT, z_gcd := PySem.W.mg_of X G z_gcd, C_Form := C_Form, g_Form := PySem.W.mg_of X G gc_Form, c_Form := ⟨pg_Form, hd_Form, po_Form, sa_Form⟩, n_Form_table := na_Form_table, n_Form_determinant := na_Form_determinant, n_Form_last := na_Form_last, M_Form := ⟨mk_Form, a_Form__init_, if_Form__init_, kp_Form⟩, m_Form_product := ⟨a_Form_product, if_Form_product, k_Form_product⟩, m_Form_moved := ⟨a_Form_moved, if_Form_moved, k_Form_moved⟩, q_Form := qe_Form, ss_Form := qs_Form, I_Form := ⟨⟨pg_Form, hd_Form, po_Form, sa_Form⟩, ia_Form, in_Form, it_Form, im_Form⟩, kl_Form_list := kit_typ ks_Form_list (by decide +kernel) }
  exact ⟨PySem.W.fnOf "law" "law" (defArgs s_law) (defBody s_law) (defScope s_law) .none kV_law dc_law pm_law an_law cd_law ct_law, fun s v => .of_eq rfl, fun base _ _ => ok_law F_law T⟩
end Kx
open PySem PySem.W PyProof.Rows
set_option maxHeartbeats 0 in
theorem PySem.Challenge.cw_coneroom_k03_moved_forms_holds : PySem.Challenge.rw_coneroom_k03_moved_forms.Holds := by
  w_on; o_law; k_head; (case hw => w_witness2)
  k_fill
  refine L2.walk_of (l := PySem.Challenge.rw_coneroom_k03_moved_forms) (n := 63) (k := 9) (x := "script") (CX := fun w => L2.CX0) (sp := fun w => Kx.spLaw _) rfl (by decide) rfl ⟨rfl, by decide, by decide⟩ (fun w h Y => PySem.W.kIn_of Y) ?F (fun _ _ a ns hl _ hS => ⟨a, ns, rfl, hS, hl, fun _ => rfl⟩) (fun _ _ _ _ _ h => h)
  case F =>
    intro w mg fa h KX G hmg
    refine' Kx.all_mk KX G hmg ?gc_Form ?a_dot ?l_dot ?c_dot ?k_dot ?a_cross ?l_cross ?c_cross ?k_cross ?a_transposed ?l_transposed ?c_transposed ?k_transposed ?a_image ?l_image ?c_image ?k_image ?a_determinant_of ?l_determinant_of ?c_determinant_of ?k_determinant_of ?a_adjugate_of ?l_adjugate_of ?c_adjugate_of ?k_adjugate_of ?a_matrix_product ?l_matrix_product ?c_matrix_product ?k_matrix_product ?a_has_inverse ?l_has_inverse ?c_has_inverse ?k_has_inverse ?a_inverse_of ?l_inverse_of ?c_inverse_of ?k_inverse_of ?a_is_whole ?l_is_whole ?c_is_whole ?k_is_whole ?a_is_within ?l_is_within ?c_is_within ?k_is_within ?a_products_of_images ?l_products_of_images ?c_products_of_images ?k_products_of_images ?a_is_item ?l_is_item ?c_is_item ?k_is_item ?a_is_below_zero ?l_is_below_zero ?c_is_below_zero ?k_is_below_zero ?a_check_form ?l_check_form ?c_check_form ?k_check_form ?a_last_of ?l_last_of ?c_last_of ?k_last_of ?a_Form__init_ ?l_Form__init_ ?c_Form__init_ ?k_Form__init_ ?a_Form_product ?l_Form_product ?c_Form_product ?k_Form_product ?a_Form_moved ?l_Form_moved ?c_Form_moved ?k_Form_moved ?a_law_draws ?l_law_draws ?c_law_draws ?k_law_draws ?a_law_image ?l_law_image ?c_law_image ?k_law_image ?a_law_times ?l_law_times ?c_law_times ?k_law_times ?a_law_det ?l_law_det ?c_law_det ?k_law_det ?a_law_row ?l_law_row ?c_law_row ?k_law_row ?a_law_steps ?l_law_steps ?c_law_steps ?k_law_steps ?a_law_product ?l_law_product ?c_law_product ?k_law_product ?a_law_turned ?l_law_turned ?c_law_turned ?k_law_turned ?a_law_menu ?l_law_menu ?c_law_menu ?k_law_menu ?a_law_table ?l_law_table ?c_law_table ?k_law_table ?a_law_found ?l_law_found ?c_law_found ?k_law_found ?a_law ?l_law ?c_law ?k_law ?z_abs ?z_isinstance ?z_bool ?z_int ?z_all ?z_range ?z_len ?z_tuple ?z_max ?z_list ?ga_BadMatrix ?x_BadMatrix ?kc_BadMatrix ?bc_BadMatrix ?tc_BadMatrix ?ic_BadMatrix ?ga_BadForm ?x_BadForm ?kc_BadForm ?bc_BadForm ?tc_BadForm ?ic_BadForm ?ga_ConeroomError ?x_ConeroomError ?kc_ConeroomError ?bc_ConeroomError ?tc_ConeroomError ?ic_ConeroomError ?hg_BadMatrix ?hk_BadMatrix ?ha_BadMatrix ?hn_BadMatrix ?ht_BadMatrix ?hm_BadMatrix ?hg_BadForm ?hk_BadForm ?ha_BadForm ?hn_BadForm ?ht_BadForm ?hm_BadForm ?s_BadMatrix_ConeroomError ?s_BadForm_ConeroomError ?ss_BadMatrix ?kt_BadMatrix_BadMatrix ?kt_BadMatrix_BadForm ?ss_BadForm ?kt_BadForm_BadMatrix ?kt_BadForm_BadForm ?cc_GREATEST_ITEM ?cc_LEAST_DETERMINANT ?z_gcd ?pg_Form ?hd_Form ?po_Form ?sa_Form ?mk_Form ?kp_Form ?na_Form_table ?na_Form_determinant ?na_Form_last ?if_Form__init_ ?if_Form_product ?if_Form_moved ?ia_Form ?in_Form ?it_Form ?im_Form ?qe_Form ?qs_Form ?ks_Form_list
    (case gc_Form => k_is)
    (case a_dot => k_is)
    (case l_dot => k_is)
    (case c_dot => k_is)
    (case k_dot => k_is)
    (case a_cross => k_is)
    (case l_cross => k_is)
    (case c_cross => k_is)
    (case k_cross => k_is)
    (case a_transposed => k_is)
    (case l_transposed => k_is)
    (case c_transposed => k_is)
    (case k_transposed => k_is)
    (case a_image => k_is)
    (case l_image => k_is)
    (case c_image => k_is)
    (case k_image => k_is)
    (case a_determinant_of => k_is)
    (case l_determinant_of => k_is)
    (case c_determinant_of => k_is)
    (case k_determinant_of => k_is)
    (case a_adjugate_of => k_is)
    (case l_adjugate_of => k_is)
    (case c_adjugate_of => k_is)
    (case k_adjugate_of => k_is)
    (case a_matrix_product => k_is)
    (case l_matrix_product => k_is)
    (case c_matrix_product => k_is)
    (case k_matrix_product => k_is)
    (case a_has_inverse => k_is)
    (case l_has_inverse => k_is)
    (case c_has_inverse => k_is)
    (case k_has_inverse => k_is)
    (case a_inverse_of => k_is)
    (case l_inverse_of => k_is)
    (case c_inverse_of => k_is)
    (case k_inverse_of => k_is)
    (case a_is_whole => k_is)
    (case l_is_whole => k_is)
    (case c_is_whole => k_is)
    (case k_is_whole => k_is)
    (case a_is_within => k_is)
    (case l_is_within => k_is)
    (case c_is_within => k_is)
    (case k_is_within => k_is)
    (case a_products_of_images => k_is)
    (case l_products_of_images => k_is)
    (case c_products_of_images => k_is)
    (case k_products_of_images => k_is)
    (case a_is_item => k_is)
    (case l_is_item => k_is)
    (case c_is_item => k_is)
    (case k_is_item => k_is)
    (case a_is_below_zero => k_is)
    (case l_is_below_zero => k_is)
    (case c_is_below_zero => k_is)
    (case k_is_below_zero => k_is)
    (case a_check_form => k_is)
    (case l_check_form => k_is)
    (case c_check_form => k_is)
    (case k_check_form => k_is)
    (case a_last_of => k_is)
    (case l_last_of => k_is)
    (case c_last_of => k_is)
    (case k_last_of => k_is)
    (case a_Form__init_ => k_is)
    (case l_Form__init_ => k_is)
    (case c_Form__init_ => k_is)
    (case k_Form__init_ => k_is)
    (case a_Form_product => k_is)
    (case l_Form_product => k_is)
    (case c_Form_product => k_is)
    (case k_Form_product => k_is)
    (case a_Form_moved => k_is)
    (case l_Form_moved => k_is)
    (case c_Form_moved => k_is)
    (case k_Form_moved => k_is)
    (case a_law_draws => k_is)
    (case l_law_draws => k_is)
    (case c_law_draws => k_is)
    (case k_law_draws => k_is)
    (case a_law_image => k_is)
    (case l_law_image => k_is)
    (case c_law_image => k_is)
    (case k_law_image => k_is)
    (case a_law_times => k_is)
    (case l_law_times => k_is)
    (case c_law_times => k_is)
    (case k_law_times => k_is)
    (case a_law_det => k_is)
    (case l_law_det => k_is)
    (case c_law_det => k_is)
    (case k_law_det => k_is)
    (case a_law_row => k_is)
    (case l_law_row => k_is)
    (case c_law_row => k_is)
    (case k_law_row => k_is)
    (case a_law_steps => k_is)
    (case l_law_steps => k_is)
    (case c_law_steps => k_is)
    (case k_law_steps => k_is)
    (case a_law_product => k_is)
    (case l_law_product => k_is)
    (case c_law_product => k_is)
    (case k_law_product => k_is)
    (case a_law_turned => k_is)
    (case l_law_turned => k_is)
    (case c_law_turned => k_is)
    (case k_law_turned => k_is)
    (case a_law_menu => k_is)
    (case l_law_menu => k_is)
    (case c_law_menu => k_is)
    (case k_law_menu => k_is)
    (case a_law_table => k_is)
    (case l_law_table => k_is)
    (case c_law_table => k_is)
    (case k_law_table => k_is)
    (case a_law_found => k_is)
    (case l_law_found => k_is)
    (case c_law_found => k_is)
    (case k_law_found => k_is)
    (case a_law => k_is)
    (case l_law => k_is)
    (case c_law => k_is)
    (case k_law => k_is)
    (case z_abs => k_is)
    (case z_isinstance => k_is)
    (case z_bool => k_is)
    (case z_int => k_is)
    (case z_all => k_is)
    (case z_range => k_is)
    (case z_len => k_is)
    (case z_tuple => k_is)
    (case z_max => k_is)
    (case z_list => k_is)
    (case ga_BadMatrix => k_is)
    (case x_BadMatrix => k_exc)
    (case kc_BadMatrix => k_is)
    (case bc_BadMatrix => k_is)
    (case tc_BadMatrix => k_is)
    (case ic_BadMatrix => k_is)
    (case ga_BadForm => k_is)
    (case x_BadForm => k_exc)
    (case kc_BadForm => k_is)
    (case bc_BadForm => k_is)
    (case tc_BadForm => k_is)
    (case ic_BadForm => k_is)
    (case ga_ConeroomError => k_is)
    (case x_ConeroomError => k_exc)
    (case kc_ConeroomError => k_is)
    (case bc_ConeroomError => k_is)
    (case tc_ConeroomError => k_is)
    (case ic_ConeroomError => k_is)
    (case hg_BadMatrix => k_is)
    (case hk_BadMatrix => k_is)
    (case ha_BadMatrix => k_is)
    (case hn_BadMatrix => k_is)
    (case ht_BadMatrix => k_is)
    (case hm_BadMatrix => k_is)
    (case hg_BadForm => k_is)
    (case hk_BadForm => k_is)
    (case ha_BadForm => k_is)
    (case hn_BadForm => k_is)
    (case ht_BadForm => k_is)
    (case hm_BadForm => k_is)
    (case s_BadMatrix_ConeroomError => k_is)
    (case s_BadForm_ConeroomError => k_is)
    (case ss_BadMatrix => k_is)
    (case kt_BadMatrix_BadMatrix => k_is)
    (case kt_BadMatrix_BadForm => k_is)
    (case ss_BadForm => k_is)
    (case kt_BadForm_BadMatrix => k_is)
    (case kt_BadForm_BadForm => k_is)
    (case cc_GREATEST_ITEM => k_is)
    (case cc_LEAST_DETERMINANT => k_is)
    (case z_gcd => k_is)
    (case pg_Form => k_is)
    (case hd_Form => k_is)
    (case po_Form => k_is)
    (case sa_Form => k_is)
    (case mk_Form => k_is)
    (case kp_Form => k_is)
    (case na_Form_table => k_is)
    (case na_Form_determinant => k_is)
    (case na_Form_last => k_is)
    (case if_Form__init_ => k_is)
    (case if_Form_product => k_is)
    (case if_Form_moved => k_is)
    (case ia_Form => k_is)
    (case in_Form => k_is)
    (case it_Form => k_is)
    (case im_Form => k_is)
    (case qe_Form => k_is)
    (case qs_Form => k_is)
    (case ks_Form_list => k_is)
