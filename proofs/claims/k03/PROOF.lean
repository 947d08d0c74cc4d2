import PyProof.Rows.All
import Wide.All
import OpenK.AllK
import Wide.FinOn
import HandS.ForMost
import HandS.ForExc
import HandS.Walk
import HandS.Wide
import HandS.IsInst
import HandS.TupAny
import HandS.RaiseMore
import HandS.Evl
import HandS.Style
import HandS.ExcOwn
import HandS.Ends
import HandS.SortKw
import KE.GoesEnum
import PySem.Challenge.RW_codepick_k03_nodes_and_heights
set_option Elab.async false
set_option linter.all false
set_option maxRecDepth 100000
set_option maxHeartbeats 2000000
namespace M2
open PySem PySem.Spec PyProof.Rows L2

/-! ### data, the store of lists, the relation to the heap -/
inductive D where
  | non | bl (b : Bool) | int (i : Int) | str (x : Str) | tup (ds : List D) | mu (l : Nat) | scr (ns : List Int) | ty (n : String) | cls (C : Addr)
abbrev Sto := List (List D)
abbrev En := List (Option D)

def SqR (K : PySem.W.Frag) (H : Hp) (a : Addr) (xs : List V) : Prop :=
  (∃ o, H a = some (.frz o (.lst xs))) ∨
    ∃ (o : Obj) (its : Array Value) (n : Nat), K.lookup a = some o ∧ o.cls = .type "list" ∧ o.dict = none ∧ o.data = .seq its n ∧ its.size ≤ sizeLine ∧ Vals xs its.toList

mutual
inductive VD (K : PySem.W.Frag) (H : Hp) (φ : List Addr) : V → D → Prop
  | non : VD K H φ .non .non
  | bl {b} : VD K H φ (.bl b) (.bl b)
  | int {i} : VD K H φ (.int i) (.int i)
  | str {x} : VD K H φ (.str x) (.str x)
  | tup {a vs ds} : SqT K H a vs → VDs K H φ vs ds → VD K H φ (.ref a) (.tup ds)
  | mu {l a} : φ[l]? = some a → VD K H φ (.ref a) (.mu l)
  | scr {a} {ns : List Int} : SqR K H a (ns.map V.int) → VD K H φ (.ref a) (.scr ns)
  | ty {n} : VD K H φ (.ty n) (.ty n)
  | cls {C} : VD K H φ (.ref C) (.cls C)
inductive VDs (K : PySem.W.Frag) (H : Hp) (φ : List Addr) : List V → List D → Prop
  | nil : VDs K H φ [] []
  | cons {v vs d ds} : VD K H φ v d → VDs K H φ vs ds → VDs K H φ (v :: vs) (d :: ds)
end

structure KX (H : Hp) (φ : List Addr) (H' : Hp) (φ' : List Addr) : Prop where
  pre : ∃ ψ, φ' = φ ++ ψ ∧ ∀ a ∈ ψ, H a = none
  keep : ∀ b o, H b = some o → b ∉ φ → H' b = some o
  imm : ∀ b o, H b = some o → (∀ xs, o ≠ .lst xs) → H' b = some o
  grow : ∀ b, H b ≠ none → H' b ≠ none

structure RS (K : PySem.W.Frag) (H : Hp) (φ : List Addr) (st : Sto) : Prop where
  len : φ.length = st.length
  nd : φ.Nodup
  get : ∀ (l : Nat) (a : Addr) (ds : List D), φ[l]? = some a → st[l]? = some ds → ∃ vs, H a = some (.lst vs) ∧ VDs K H φ vs ds

structure RE (K : PySem.W.Frag) (H : Hp) (φ : List Addr) (σ : L2.St) (en : En) : Prop where
  len : σ.length = en.length
  get : ∀ (i : Nat) (d : D), en[i]? = some (some d) → ∃ v, σ[i]? = some (some v) ∧ VD K H φ v d

section
variable {K : PySem.W.Frag} {H H' H1 H2 : Hp} {φ φ' φ1 φ2 : List Addr} {st st' : Sto} {v : V} {d : D} {vs : List V} {ds : List D} {a : Addr}
theorem KX.refl : KX H φ H φ := ⟨⟨[], by simp, fun _ h => nomatch h⟩, fun _ _ h _ => h, fun _ _ h _ => h, fun _ h => h⟩
theorem KX.trans (x : KX H φ H1 φ1) (y : KX H1 φ1 H2 φ2) : KX H φ H2 φ2 := by
  obtain ⟨ψ, e1, f1⟩ := x.pre
  obtain ⟨χ, e2, f2⟩ := y.pre
  refine ⟨⟨ψ ++ χ, by rw [e2, e1, List.append_assoc], fun a h => ?_⟩, fun b o h n => ?_, fun b o h n => y.imm b o (x.imm b o h n) n, fun b h => y.grow b (x.grow b h)⟩
  · rcases List.mem_append.mp h with h | h
    · exact f1 a h
    · cases q : H a with
      | none => rfl
      | some o => exact absurd (f2 a h) (x.grow a (by rw [q]; exact fun z => nomatch z))
  · refine y.keep b o (x.keep b o h n) fun m => ?_
    rw [e1] at m
    rcases List.mem_append.mp m with m | m
    · exact n m
    · rw [f1 b m] at h; cases h
theorem KX.at (x : KX H φ H' φ') {l : Nat} (h : φ[l]? = some a) : φ'[l]? = some a := by
  obtain ⟨ψ, e, _⟩ := x.pre
  have hl : l < φ.length := (List.getElem?_eq_some_iff.mp h).1
  rw [e, List.getElem?_append_left hl]; exact h
theorem KX.rd (x : KX H φ H' φ') {xs : List V} (h : Rd H a (.tup xs)) : Rd H' a (.tup xs) := by
  rcases h with h | ⟨o, h⟩
  · exact .inl (x.imm _ _ h fun _ z => nomatch z)
  · exact .inr ⟨o, x.imm _ _ h fun _ z => nomatch z⟩
theorem KX.sqT (x : KX H φ H' φ') {xs : List V} (h : SqT K H a xs) : SqT K H' a xs := by
  rcases h with h | h
  · exact .inl (x.rd h)
  · exact .inr h
theorem KX.sqR (x : KX H φ H' φ') {xs : List V} (h : SqR K H a xs) : SqR K H' a xs := by
  rcases h with ⟨o, h⟩ | h
  · exact .inl ⟨o, x.imm _ _ h fun _ z => nomatch z⟩
  · exact .inr h
mutual
theorem VD.mono (x : KX H φ H' φ') : ∀ {v d}, VD K H φ v d → VD K H' φ' v d
  | _, _, .non => .non
  | _, _, .bl => .bl
  | _, _, .int => .int
  | _, _, .str => .str
  | _, _, .tup h1 h2 => .tup (x.sqT h1) (VDs.mono x h2)
  | _, _, .mu h => .mu (x.at h)
  | _, _, .scr h => .scr (x.sqR h)
  | _, _, .ty => .ty
  | _, _, .cls => .cls
theorem VDs.mono (x : KX H φ H' φ') : ∀ {vs ds}, VDs K H φ vs ds → VDs K H' φ' vs ds
  | _, _, .nil => .nil
  | _, _, .cons h t => .cons (VD.mono x h) (VDs.mono x t)
end
theorem RE.mono {σ : L2.St} {en : En} (x : KX H φ H' φ') (h : RE K H φ σ en) : RE K H' φ' σ en := ⟨h.len, fun i d e => by
  obtain ⟨v, e1, e2⟩ := h.get i d e
  exact ⟨v, e1, e2.mono x⟩⟩
theorem VDs.length : ∀ {vs ds}, VDs K H φ vs ds → vs.length = ds.length
  | _, _, .nil => rfl
  | _, _, .cons _ t => by simp [VDs.length t]
theorem VDs.get : ∀ {vs ds} {i : Nat} {d : D}, VDs K H φ vs ds → ds[i]? = some d → ∃ v, vs[i]? = some v ∧ VD K H φ v d
  | _, _, i, d, .nil, h => by simp at h
  | _, _, 0, d, .cons h t, e => by simp at e; subst e; exact ⟨_, rfl, h⟩
  | _, _, i + 1, d, .cons h t, e => by
    obtain ⟨v, e1, e2⟩ := VDs.get (i := i) t (by simpa using e)
    exact ⟨v, by simpa using e1, e2⟩
theorem VDs.app : ∀ {vs ds ws es}, VDs K H φ vs ds → VDs K H φ ws es → VDs K H φ (vs ++ ws) (ds ++ es)
  | _, _, _, _, .nil, h => h
  | _, _, _, _, .cons a t, h => .cons a (VDs.app t h)
theorem VDs.take : ∀ {vs ds} (n : Nat), VDs K H φ vs ds → VDs K H φ (vs.take n) (ds.take n)
  | _, _, 0, _ => .nil
  | _, _, _ + 1, .nil => .nil
  | _, _, n + 1, .cons a t => .cons a (VDs.take n t)
theorem VDs.drop : ∀ {vs ds} (n : Nat), VDs K H φ vs ds → VDs K H φ (vs.drop n) (ds.drop n)
  | _, _, 0, h => h
  | _, _, _ + 1, .nil => .nil
  | _, _, n + 1, .cons _ t => VDs.drop n t
theorem VDs.rev : ∀ {vs ds}, VDs K H φ vs ds → VDs K H φ vs.reverse ds.reverse
  | _, _, .nil => .nil
  | _, _, .cons a t => by
    rw [List.reverse_cons, List.reverse_cons]
    exact (VDs.rev t).app (.cons a .nil)
theorem VDs.set {v : V} {d : D} (r : VD K H φ v d) : ∀ {vs ds} (i : Nat), VDs K H φ vs ds → VDs K H φ (vs.set i v) (ds.set i d)
  | _, _, _, .nil => .nil
  | _, _, 0, .cons _ t => .cons r t
  | _, _, i + 1, .cons q t => .cons q (VDs.set r i t)
theorem VDs.ints : ∀ {vs} {ns : List Int}, VDs K H φ vs (ns.map D.int) → vs = ns.map V.int
  | _, [], .nil => rfl
  | _, n :: ns, .cons h t => by
    cases h
    rw [VDs.ints t]; rfl
theorem VDs.bls : ∀ {vs} {ns : List Bool}, VDs K H φ vs (ns.map D.bl) → vs = ns.map V.bl
  | _, [], .nil => rfl
  | _, n :: ns, .cons h t => by
    cases h
    rw [VDs.bls t]; rfl
theorem vds_ints : ∀ (ns : List Int), VDs K H φ (ns.map V.int) (ns.map D.int)
  | [] => .nil
  | n :: ns => .cons .int (vds_ints ns)
theorem SqR.sql {xs : List V} (h : SqR K H a xs) : SqL K H a xs := by
  rcases h with ⟨o, h⟩ | h
  · exact .inl (.inr ⟨o, h⟩)
  · exact .inr h
/-- a tuple is laid -/
theorem lay_tup {xs : List V} (rs : RS K H φ st) (n : H a = none) : KX H φ (upd H a (.tup xs)) φ ∧ RS K (upd H a (.tup xs)) φ st := by
  have k : KX H φ (upd H a (.tup xs)) φ := ⟨⟨[], by simp, fun _ h => nomatch h⟩, fun b o h _ => by rw [upd_ne (ne_of_none h n)]; exact h, fun b o h _ => by rw [upd_ne (ne_of_none h n)]; exact h, fun b h => by
    by_cases e : b = a
    · rw [e, upd_same]; exact fun z => nomatch z
    · rw [upd_ne e]; exact h⟩
  refine ⟨k, rs.len, rs.nd, fun l b ds e1 e2 => ?_⟩
  obtain ⟨vs, g1, g2⟩ := rs.get l b ds e1 e2
  exact ⟨vs, by rw [upd_ne (ne_of_none g1 n)]; exact g1, g2.mono k⟩
/-- a list is laid -/
theorem lay_lst {xs : List V} {ds : List D} (rs : RS K H φ st) (n : H a = none) (r : VDs K H φ xs ds) : KX H φ (upd H a (.lst xs)) (φ ++ [a]) ∧ RS K (upd H a (.lst xs)) (φ ++ [a]) (st ++ [ds]) := by
  have k : KX H φ (upd H a (.lst xs)) (φ ++ [a]) := ⟨⟨[a], rfl, fun b h => by simp at h; rw [h]; exact n⟩, fun b o h _ => by rw [upd_ne (ne_of_none h n)]; exact h, fun b o h _ => by rw [upd_ne (ne_of_none h n)]; exact h, fun b h => by
    by_cases e : b = a
    · rw [e, upd_same]; exact fun z => nomatch z
    · rw [upd_ne e]; exact h⟩
  have na : a ∉ φ := fun h => by
    obtain ⟨l, e⟩ := List.mem_iff_getElem?.mp h
    have hl : l < st.length := by rw [← rs.len]; exact (List.getElem?_eq_some_iff.mp e).1
    obtain ⟨vs, g, _⟩ := rs.get l a st[l] e (List.getElem?_eq_getElem hl)
    rw [n] at g; cases g
  refine ⟨k, by simp [rs.len], ?_, fun l b es e1 e2 => ?_⟩
  · rw [List.nodup_append]
    exact ⟨rs.nd, by simp, fun x hx y hy => by simp at hy; subst hy; exact fun z => na (z ▸ hx)⟩
  · by_cases hl : l < φ.length
    · rw [List.getElem?_append_left hl] at e1
      rw [List.getElem?_append_left (by rw [← rs.len]; exact hl)] at e2
      obtain ⟨vs, g1, g2⟩ := rs.get l b es e1 e2
      exact ⟨vs, by rw [upd_ne (ne_of_none g1 n)]; exact g1, g2.mono k⟩
    · have hl' : l = φ.length := by
        have := (List.getElem?_eq_some_iff.mp e1).1
        simp at this; omega
      subst hl'
      rw [List.getElem?_append_right (Nat.le_refl _)] at e1
      rw [List.getElem?_append_right (by rw [rs.len]; exact Nat.le_refl _)] at e2
      simp [rs.len] at e1 e2
      subst e1 e2
      exact ⟨xs, upd_same, r.mono k⟩
/-- a list is changed -/
theorem put_lst {l : Nat} {xs : List V} {ds : List D} (rs : RS K H φ st) (e : φ[l]? = some a) (r : VDs K H φ xs ds) : KX H φ (upd H a (.lst xs)) φ ∧ RS K (upd H a (.lst xs)) φ (st.set l ds) := by
  have hl : l < st.length := by rw [← rs.len]; exact (List.getElem?_eq_some_iff.mp e).1
  obtain ⟨ws, g, _⟩ := rs.get l a st[l] e (List.getElem?_eq_getElem hl)
  have hm : a ∈ φ := List.mem_iff_getElem?.mpr ⟨l, e⟩
  have k : KX H φ (upd H a (.lst xs)) φ := ⟨⟨[], by simp, fun _ h => nomatch h⟩, fun b o h nb => by rw [upd_ne (fun (z : b = a) => nb (by rw [z]; exact hm))]; exact h, fun b o h nl => by
      rw [upd_ne (fun (z : b = a) => by rw [z, g] at h; exact nl ws (Option.some.inj h).symm)]; exact h, fun b h => by
    by_cases q : b = a
    · rw [q, upd_same]; exact fun z => nomatch z
    · rw [upd_ne q]; exact h⟩
  refine ⟨k, by simp [rs.len], rs.nd, fun j b es e1 e2 => ?_⟩
  by_cases hj : j = l
  · subst hj
    rw [e] at e1; cases e1
    rw [List.getElem?_set_self hl] at e2; cases e2
    exact ⟨xs, upd_same, r.mono k⟩
  · rw [List.getElem?_set_ne (Ne.symm hj)] at e2
    obtain ⟨vs, g1, g2⟩ := rs.get j b es e1 e2
    have hb : b ≠ a := fun z => hj (nd_ix rs.nd e1 (z ▸ e))
    exact ⟨vs, by rw [upd_ne hb]; exact g1, g2.mono k⟩
theorem KX.sql_at (rs : RS K H φ st) {l : Nat} (e1 : φ[l]? = some a) (e2 : st[l]? = some ds) : ∃ vs, H a = some (.lst vs) ∧ VDs K H φ vs ds := rs.get l a ds e1 e2
end

/-! ### mirrors -/
abbrev MM (α : Type) := En → Sto → Option (Except Addr α × Sto)
def bnd {α β : Type} (m : MM α) (k : α → MM β) : MM β := fun en st => match m en st with
  | none => none
  | some (.error c, st1) => some (.error c, st1)
  | some (.ok a, st1) => k a en st1
def ret {α : Type} (a : α) : MM α := fun _ st => some (.ok a, st)
def lft {α : Type} (o : Option α) : MM α := fun _ st => o.map fun a => (.ok a, st)
def stm {α : Type} (f : Sto → Option (α × Sto)) : MM α := fun _ st => (f st).map fun p => (.ok p.1, p.2)
def asg {α : Type} (f : En → Sto → Option α) : MM α := fun en st => (f en st).map fun a => (.ok a, st)

def Pst {α : Type} (E : XK) (P : α → List Addr → Hp → Prop) : Except Addr α → List Addr → Hp → Prop
  | .ok a, φ, H => P a φ H
  | .error c, _, H => E (.ref c) none H

def Gat {α : Type} (K : PySem.W.Frag) (E : XK) (m : MM α) (σ : L2.St) (en : En) (st : Sto) (φ : List Addr) (H : Hp) (P : Sto → α → List Addr → Hp → Prop) : Prop :=
  RE K H φ σ en ∧ RS K H φ st ∧ ∃ r st', m en st = some (r, st') ∧ ∀ φ' H', KX H φ H' φ' → RS K H' φ' st' → Pst E (P st') r φ' H'

section
variable {α β : Type} {K : PySem.W.Frag} {E : XK} {m : MM α} {k : α → MM β} {σ : L2.St} {en : En} {st : Sto} {φ : List Addr} {H : Hp} {P : Sto → α → List Addr → Hp → Prop} {R : Sto → β → List Addr → Hp → Prop}
theorem Gat.bind (h : Gat K E (bnd m k) σ en st φ H R) : Gat K E m σ en st φ H fun st1 a φ1 H1 => KX H φ H1 φ1 ∧ RS K H1 φ1 st1 ∧ Gat K E (k a) σ en st1 φ1 H1 R := by
  obtain ⟨re, rs, r, st', e, q⟩ := h
  refine ⟨re, rs, ?_⟩
  unfold bnd at e
  split at e
  · cases e
  · rename_i c st1 hm
    cases e
    exact ⟨_, _, hm, fun φ' H' kx rs' => q φ' H' kx rs'⟩
  · rename_i a st1 hm
    refine ⟨_, _, hm, fun φ1 H1 kx rs1 => ⟨kx, rs1, re.mono kx, rs1, r, st', e, fun φ' H' kx' rs' => q φ' H' (kx.trans kx') rs'⟩⟩
theorem Gat.imp {P' : Sto → α → List Addr → Hp → Prop} (h : Gat K E m σ en st φ H P) (f : ∀ st' a φ' H', KX H φ H' φ' → RS K H' φ' st' → P st' a φ' H' → P' st' a φ' H') : Gat K E m σ en st φ H P' := by
  obtain ⟨re, rs, r, st', e, q⟩ := h
  refine ⟨re, rs, r, st', e, fun φ' H' kx rs' => ?_⟩
  have z := q φ' H' kx rs'
  cases r with
  | error c => exact z
  | ok a => exact f st' a φ' H' kx rs' z
theorem Gat.ret {a : α} (h : Gat K E (ret a) σ en st φ H P) : P st a φ H := by
  obtain ⟨re, rs, r, st', e, q⟩ := h
  cases e
  exact q φ H .refl rs
theorem Gat.lft {o : Option α} (h : Gat K E (lft o) σ en st φ H P) : ∃ a, o = some a ∧ P st a φ H := by
  obtain ⟨re, rs, r, st', e, q⟩ := h
  unfold M2.lft at e
  cases o with
  | none => cases e
  | some a => cases e; exact ⟨a, rfl, q φ H .refl rs⟩
theorem Gat.lft' {o : Option α} (h : Gat K E (M2.lft o) σ en st φ H P) : ∃ a, o = some a ∧ ∀ φ' H', KX H φ H' φ' → RS K H' φ' st → P st a φ' H' := by
  obtain ⟨re, rs, r, st', e, q⟩ := h
  unfold M2.lft at e
  cases o with
  | none => cases e
  | some a => cases e; exact ⟨a, rfl, q⟩
theorem Gat.asg {f : En → Sto → Option α} (h : Gat K E (asg f) σ en st φ H P) : ∃ a, f en st = some a ∧ P st a φ H := by
  obtain ⟨re, rs, r, st', e, q⟩ := h
  unfold M2.asg at e
  cases hf : f en st with
  | none => rw [hf] at e; cases e
  | some a => rw [hf] at e; cases e; exact ⟨a, rfl, q φ H .refl rs⟩
theorem Gat.stm {f : Sto → Option (α × Sto)} (h : Gat K E (stm f) σ en st φ H P) : ∃ a st', f st = some (a, st') ∧ ∀ φ' H', KX H φ H' φ' → RS K H' φ' st' → P st' a φ' H' := by
  obtain ⟨re, rs, r, st', e, q⟩ := h
  unfold M2.stm at e
  cases hf : f st with
  | none => rw [hf] at e; cases e
  | some p => rw [hf] at e; cases e; exact ⟨p.1, p.2, rfl, q⟩
end

/-! ### the canonical readings -/
def tM (K : PySem.W.Frag) (E : XK) (m : MM D) : TE := fun σ H Q => ∃ en st φ, Gat K E m σ en st φ H fun _ d φ' H' => ∀ v, VD K H' φ' v d → Q v H'
def tTM (K : PySem.W.Frag) (E : XK) (m : MM Bool) : TT := fun σ H Q => ∃ en st φ, Gat K E m σ en st φ H fun _ b _ H' => Q b H'
def tAM (K : PySem.W.Frag) (E : XK) (m : MM (List D)) : TA := fun σ H Q => ∃ en st φ, Gat K E m σ en st φ H fun _ ds φ' H' => ∀ vs, VDs K H' φ' vs ds → Q vs H'
abbrev DE (X : Cx) (E : XK) (e : Expr) (m : MM D) : Prop := PE X e (tM X.K E m)
abbrev DT (X : Cx) (E : XK) (e : Expr) (m : MM Bool) : Prop := PT X e (tTM X.K E m)
abbrev DA (X : Cx) (E : XK) (es : List Expr) (m : MM (List D)) : Prop := PA X es (tAM X.K E m)

theorem pe_imp {X : Cx} {e : Expr} {t t' : TE} (h : PE X e t) (f : ∀ σ H Q, t' σ H Q → t σ H Q) : PE X e t' := ⟨fun pins s σ H Q I w => h.run pins s σ H Q I (f σ H Q w)⟩
theorem pt_imp {X : Cx} {e : Expr} {t t' : TT} (h : PT X e t) (f : ∀ σ H Q, t' σ H Q → t σ H Q) : PT X e t' := ⟨fun pins s σ H Q I w => h.run pins s σ H Q I (f σ H Q w)⟩
theorem pa_imp {X : Cx} {e : List Expr} {t t' : TA} (h : PA X e t) (f : ∀ σ H Q, t' σ H Q → t σ H Q) : PA X e t' := ⟨fun p pins s σ H Q I w => h.run p pins s σ H Q I (f σ H Q w)⟩
theorem ps_imp {X : Cx} {e : Stmt} {t t' : TS} (h : PS X e t) (f : ∀ D σ H, t' D σ H → t D σ H) : PS X e t' := ⟨fun pins s σ H D I w => h.run pins s σ H D I (f D σ H w)⟩
theorem pss_imp {X : Cx} {e : List Stmt} {t t' : TS} (h : PSs X e t) (f : ∀ D σ H, t' D σ H → t D σ H) : PSs X e t' := ⟨fun pins s σ H D I w => h.run pins s σ H D I (f D σ H w)⟩

/-! ### expressions -/
def mVar (i : Nat) : MM D := asg fun en _ => (en[i]?).join
def mOp (f : D → D → Sto → Option (D × Sto)) (a b : MM D) : MM D := bnd a fun x => bnd b fun y => stm (f x y)
def mArgs : List (MM D) → MM (List D)
  | [] => ret []
  | m :: ms => bnd m fun d => bnd (mArgs ms) fun ds => ret (d :: ds)
def mTup (ms : List (MM D)) : MM D := bnd (mArgs ms) fun ds => lft (if ds.length < 100000 then some (.tup ds) else none)
def mNewL (ds : List D) : MM D := stm fun st => if ds.length < 100000 then some (.mu st.length, st ++ [ds]) else none
def mLst (ms : List (MM D)) : MM D := bnd (mArgs ms) mNewL

section
variable {X : Cx} {E : XK} {i : Nat} {x : Str} {pos : Pos} {a b e : Expr} {es : List Expr} {ma mb : MM D} {ms : MM (List D)}
theorem de_var (hN : X.N[i]? = some x) (hv : Vis X.env.scope x) (hd : (x == ("__debug__" : Str)) = false) (hcd : (x == ("__classdict__" : Str)) = false) : DE X E (.Name x pos) (mVar i) :=
  pe_imp (pe_var hN hv hd hcd) fun σ H Q ⟨en, st, φ, g⟩ => by
    obtain ⟨d, e1, q⟩ := g.asg
    have e2 : en[i]? = some (some d) := by
      cases h : en[i]? with
      | none => rw [h] at e1; cases e1
      | some o => rw [h] at e1; exact congrArg some e1
    obtain ⟨v, h1, h2⟩ := g.1.get i d e2
    exact ⟨v, h1, q v h2⟩
theorem de_c {v : V} {d : D} (h : PE X e (tC v)) (r : ∀ K H φ, VD K H φ v d) : DE X E e (ret d) := pe_imp h fun σ H Q ⟨en, st, φ, g⟩ => g.ret v (r _ _ _)
theorem de_int {n : Int} {j : Nat} : DE X E (.Constant (.int n) j pos) (ret (.int n)) := de_c pe_int fun _ _ _ => .int
theorem de_bl {n : Bool} {j : Nat} : DE X E (.Constant (.bool n) j pos) (ret (.bl n)) := de_c pe_bl fun _ _ _ => .bl
theorem de_non {j : Nat} : DE X E (.Constant .none j pos) (ret .non) := de_c pe_non fun _ _ _ => .non
theorem de_str {n : Str} {j : Nat} : DE X E (.Constant (.str n) j pos) (ret (.str n)) := de_c pe_str fun _ _ _ => .str
/-- what a binary operator on values does, told by data -/
abbrev FD2 := D → D → Sto → Option (D × Sto)
def OpD (X : Cx) (r : R2) (f : FD2) : Prop := ∀ H φ st (Q : VK) x y dx dy dz st', RS X.K H φ st → VD X.K H φ x dx → VD X.K H φ y dy → f dx dy st = some (dz, st') → (∀ v φ' H', KX H φ H' φ' → RS X.K H' φ' st' → VD X.K H' φ' v dz → Q v H') → r x y H Q
theorem op_bnd {r : R2} {f : FD2} {σ : L2.St} {H : Hp} {Q : VK} (hf : OpD X r f) (h : tM X.K E (mOp f ma mb) σ H Q) : tM X.K E ma σ H fun x H1 => tM X.K E mb σ H1 fun y H2 => r x y H2 Q := by
  obtain ⟨en, st, φ, g⟩ := h
  refine ⟨en, st, φ, g.bind.imp fun st1 d1 φ1 H1 _ _ ⟨k1, r1, g1⟩ x vx => ⟨en, st1, φ1, g1.bind.imp fun st2 d2 φ2 H2 _ _ ⟨k2, r2, g2⟩ y vy => ?_⟩⟩
  obtain ⟨dz, st', hz, q⟩ := g2.stm
  exact hf H2 φ2 st2 Q x y d1 d2 dz st' r2 (vx.mono k2) vy hz fun v φ' H' kx rs' vd => q φ' H' kx rs' v vd
theorem de_op {op : Operator} {r : R2} {f : FD2} (ho : OpR X (binaryOp op) r) (hf : OpD X r f) (ha : DE X E a ma) (hb : DE X E b mb) : DE X E (.BinOp a op b pos) (mOp f ma mb) :=
  pe_imp (pe_op ho ha hb) fun σ H Q h => op_bnd hf h
theorem de_cmp {op : CmpOp} {r : R2} {f : FD2} (ho : OpR X (compareOp op) r) (hf : OpD X r f) (ha : DE X E a ma) (hb : DE X E b mb) (hm : behindInMarks op b = false) : DE X E (.Compare a [op] [b] pos) (mOp f ma mb) :=
  pe_imp (pe_cmpR ho ha hb hm) fun σ H Q h => op_bnd hf h
theorem da_nil : DA X E [] (mArgs []) := pa_imp pa_nil fun σ H Q ⟨en, st, φ, g⟩ => g.ret [] .nil
theorem da_cons {ms' : List (MM D)} (ha : DE X E a ma) (hs : DA X E es (mArgs ms')) (he : starEach (a :: es) X.env = (false, eval a X.env) :: starEach es X.env := by rfl) : DA X E (a :: es) (mArgs (ma :: ms')) :=
  pa_imp (pa_cons ha hs he) fun σ H Q ⟨en, st, φ, g⟩ => ⟨en, st, φ, g.bind.imp fun st1 d1 φ1 H1 _ _ ⟨k1, r1, g1⟩ x vx => ⟨en, st1, φ1, g1.bind.imp fun st2 d2 φ2 H2 _ _ ⟨k2, r2, g2⟩ vs vds => g2.ret _ (.cons (vx.mono k2) vds)⟩⟩
end
end M2
set_option Elab.async false
set_option linter.all false
set_option maxRecDepth 100000
set_option maxHeartbeats 2000000
namespace M2
open PySem PySem.Spec PyProof.Rows L2

/-! ### data as the library's data -/
mutual
def dat (st : Sto) : Nat → D → Option PyData
  | 0, _ => none
  | _ + 1, .non => some .none
  | _ + 1, .bl b => some (.bool b)
  | _ + 1, .int i => some (.int i)
  | _ + 1, .str x => some (.str x)
  | n + 1, .tup ds => (datL st n ds).map .tuple
  | n + 1, .mu l => match st[l]? with
    | some ds => (datL st n ds).map .list
    | none => none
  | _ + 1, .scr ns => some (.list (ns.map .int))
  | _ + 1, .ty _ => none
  | _ + 1, .cls _ => none
def datL (st : Sto) : Nat → List D → Option (List PyData)
  | _, [] => some []
  | n, d :: ds => match dat st n d, datL st n ds with
    | some p, some ps => some (p :: ps)
    | _, _ => none
end
theorem depthAll_le {n : Nat} : ∀ {ps : List PyData}, (∀ p ∈ ps, p.depth ≤ n) → PyData.depthAll ps ≤ n
  | [], _ => Nat.zero_le _
  | p :: ps, h => by
    have h1 := h p List.mem_cons_self
    have h2 := depthAll_le (ps := ps) fun q hq => h q (List.mem_cons_of_mem _ hq)
    simp only [PyData.depthAll]
    omega
theorem dpAll_ints {K : PySem.W.Frag} {H : Hp} : ∀ (ns : List Int), DpAll K H (ns.map V.int) (ns.map PyData.int)
  | [] => .nil
  | n :: ns => .cons (.int n) (dpAll_ints ns)
theorem depth_ints : ∀ (ns : List Int), PyData.depthAll (ns.map PyData.int) ≤ 0
  | [] => Nat.le_refl _
  | n :: ns => by
    have := depth_ints ns
    simp only [List.map_cons, PyData.depthAll, PyData.depth]
    omega
section
variable {K : PySem.W.Frag} {H : Hp} {φ : List Addr} {st : Sto}
mutual
theorem dat_dp (rs : RS K H φ st) : ∀ (n : Nat) (d : D) (v : V) (p : PyData), VD K H φ v d → dat st n d = some p → Dp K H v p ∧ p.depth ≤ n
  | 0, _, _, _, _, h => by unfold dat at h; cases h
  | n + 1, .non, _, _, .non, h => by unfold dat at h; cases h; exact ⟨.non, by simp only [PyData.depth]; omega⟩
  | n + 1, .bl _, _, _, .bl, h => by unfold dat at h; cases h; exact ⟨.bl _, by simp only [PyData.depth]; omega⟩
  | n + 1, .int _, _, _, .int, h => by unfold dat at h; cases h; exact ⟨.int _, by simp only [PyData.depth]; omega⟩
  | n + 1, .str _, _, _, .str, h => by unfold dat at h; cases h; exact ⟨.str _, by simp only [PyData.depth]; omega⟩
  | n + 1, .tup ds, _, p, .tup h1 h2, h => by
    unfold dat at h
    cases q : datL st n ds with
    | none => rw [q] at h; cases h
    | some ps =>
      rw [q] at h; cases h
      obtain ⟨g1, g2⟩ := datL_dp rs n ds _ ps h2 q
      exact ⟨.tup h1 g1, by simp only [PyData.depth]; omega⟩
  | n + 1, .mu l, _, p, .mu h1, h => by
    unfold dat at h
    cases e : st[l]? with
    | none => rw [e] at h; cases h
    | some ds =>
      rw [e] at h
      replace h : (datL st n ds).map PyData.list = some p := h
      obtain ⟨vs, g1, g2⟩ := rs.get l _ ds h1 e
      cases q : datL st n ds with
      | none => rw [q] at h; cases h
      | some ps =>
        rw [q] at h; cases h
        obtain ⟨g3, g4⟩ := datL_dp rs n ds _ ps g2 q
        exact ⟨.lst (.of g1) g3, by simp only [PyData.depth]; omega⟩
  | n + 1, .scr ns, _, p, .scr h1, h => by
    unfold dat at h; cases h
    exact ⟨.lst h1.sql (dpAll_ints ns), by have := depth_ints ns; simp only [PyData.depth]; omega⟩
  | n + 1, .ty _, _, _, _, h => by unfold dat at h; cases h
  | n + 1, .cls _, _, _, _, h => by unfold dat at h; cases h
theorem datL_dp (rs : RS K H φ st) : ∀ (n : Nat) (ds : List D) (vs : List V) (ps : List PyData), VDs K H φ vs ds → datL st n ds = some ps → DpAll K H vs ps ∧ PyData.depthAll ps ≤ n
  | _, [], _, _, .nil, h => by unfold datL at h; cases h; exact ⟨.nil, Nat.zero_le _⟩
  | n, d :: ds, _, ps, .cons h1 h2, h => by
    unfold datL at h
    cases q : dat st n d with
    | none => rw [q] at h; cases h
    | some p =>
      cases q2 : datL st n ds with
      | none => rw [q, q2] at h; cases h
      | some ps' =>
        rw [q, q2] at h; cases h
        obtain ⟨a1, a2⟩ := dat_dp rs n d _ p h1 q
        obtain ⟨b1, b2⟩ := datL_dp rs n ds _ ps' h2 q2
        exact ⟨.cons a1 b1, by simp only [PyData.depthAll]; omega⟩
end
end

/-! ### operators on data -/
section
variable {X : Cx}
def iop (C : Int → Int → Bool) (g : Int → Int → Int) : FD2 := fun x y st => match x, y with
  | .int i, .int j => if C i j = true then some (.int (g i j), st) else none
  | _, _ => none
def bop (g : Int → Int → Bool) : FD2 := fun x y st => match x, y with
  | .int i, .int j => some (.bl (g i j), st)
  | _, _ => none
theorem opd_I {C : Int → Int → Prop} {c : Int → Int → Bool} {g : Int → Int → Int} (hc : ∀ i j, c i j = true → C i j) : OpD X (rI C fun i j => .int (g i j)) (iop c g) := by
  intro H φ st Q x y dx dy dz st' rs vx vy hf q
  unfold iop at hf
  split at hf
  · rename_i i j
    split at hf
    · rename_i h
      cases hf; cases vx; cases vy
      exact ⟨i, j, rfl, rfl, hc i j h, q _ φ H .refl rs .int⟩
    · cases hf
  · cases hf
theorem opd_I0 {g : Int → Int → Int} : OpD X (rI0 fun i j => .int (g i j)) (iop (fun _ _ => true) g) := by
  intro H φ st Q x y dx dy dz st' rs vx vy hf q
  unfold iop at hf
  split at hf
  · rename_i i j
    rw [if_pos rfl] at hf
    cases hf; cases vx; cases vy
    exact ⟨i, j, rfl, rfl, q _ φ H .refl rs .int⟩
  · cases hf
theorem opd_B {g : Int → Int → Bool} : OpD X (rI0 fun i j => .bl (g i j)) (bop g) := by
  intro H φ st Q x y dx dy dz st' rs vx vy hf q
  unfold bop at hf
  split at hf
  · rename_i i j
    cases hf; cases vx; cases vy
    exact ⟨i, j, rfl, rfl, q _ φ H .refl rs .bl⟩
  · cases hf
def fSub : FD2 := iop (fun _ _ => true) fun i j => i - j
def fMod : FD2 := iop (fun _ j => decide (0 < j)) fun i j => i % j
def fDiv : FD2 := iop (fun _ j => decide (0 < j ∧ j.natAbs.log2 < 9000)) fun i j => i / j
def fPow : FD2 := iop (fun i j => decide (0 ≤ j ∧ j ≤ 1000000 ∧ i.natAbs < 2 ^ 64)) fun i j => i ^ j.toNat
def fLt : FD2 := bop fun i j => decide (i < j)
def fLe : FD2 := bop fun i j => decide (i ≤ j)
def fGt : FD2 := bop fun i j => decide (j < i)
def fGe : FD2 := bop fun i j => decide (j ≤ i)
theorem opd_sub : OpD X (rI0 fun i j => .int (i - j)) fSub := opd_I0
theorem opd_mod : OpD X (rI (fun _ j => 0 < j) fun i j => .int (i % j)) fMod := opd_I fun i j h => of_decide_eq_true h
theorem opd_div : OpD X (rI CDivW fun i j => .int (i / j)) fDiv := opd_I fun i j h => (of_decide_eq_true h : 0 < j ∧ j.natAbs.log2 < 9000)
theorem opd_pow : OpD X (rI CPow fun i j => .int (i ^ j.toNat)) fPow := opd_I fun i j h => (of_decide_eq_true h : 0 ≤ j ∧ j ≤ 1000000 ∧ i.natAbs < 2 ^ 64)
theorem opd_lt : OpD X (rI0 fun i j => .bl (decide (i < j))) fLt := opd_B
theorem opd_le : OpD X (rI0 fun i j => .bl (decide (i ≤ j))) fLe := opd_B
theorem opd_gt : OpD X (rI0 fun i j => .bl (decide (j < i))) fGt := opd_B
theorem opd_ge : OpD X (rI0 fun i j => .bl (decide (j ≤ i))) fGe := opd_B
/-- + -/
def fAdd : FD2 := fun x y st => match x, y with
  | .int i, .int j => some (.int (i + j), st)
  | .str a, .str b => if a.length + b.length ≤ 100000 then some (.str (a ++ b), st) else none
  | .tup xs, .tup ys => if xs.length + ys.length < 100000 then some (.tup (xs ++ ys), st) else none
  | .mu l, .mu k => match st[l]?, st[k]? with
    | some xs, some ys => if xs.length + ys.length < 100000 then some (.mu st.length, st ++ [xs ++ ys]) else none
    | _, _ => none
  | _, _ => none
def rAddA (K : PySem.W.Frag) : R2 := fun x y H Q => rI0 (fun i j => .int (i + j)) x y H Q ∨ (∃ i j, x = .str i ∧ y = .str j ∧ i.length + j.length ≤ sizeLine ∧ Q (.str (i ++ j)) H) ∨ rCatA K x y H Q ∨ rCat x y H Q
theorem op_addA : OpR X (binaryOp .Add) (rAddA X.K) := op_add.or (op_add_str.or (op_catA.or op_cat))
theorem big {n : Nat} (h : n ≤ 100000) : n ≤ sizeLine := Evl.sz_of h
theorem VD.tupI {K : PySem.W.Frag} {H : Hp} {φ : List Addr} {v : V} {ds : List D} (h : VD K H φ v (.tup ds)) : ∃ a vs, v = .ref a ∧ SqT K H a vs ∧ VDs K H φ vs ds := by
  cases h with
  | tup h1 h2 => exact ⟨_, _, rfl, h1, h2⟩
theorem VD.mutI {K : PySem.W.Frag} {H : Hp} {φ : List Addr} {v : V} {l : Nat} (h : VD K H φ v (.mu l)) : ∃ a, v = .ref a ∧ φ[l]? = some a := by
  cases h with
  | mu h1 => exact ⟨_, rfl, h1⟩
theorem VDs.nilI {K : PySem.W.Frag} {H : Hp} {φ : List Addr} {vs : List V} (h : VDs K H φ vs []) : vs = [] := by cases h; rfl
theorem opd_add : OpD X (rAddA X.K) fAdd := by
  intro H φ st Q x y dx dy dz st' rs vx vy hf q
  unfold fAdd at hf
  split at hf
  · rename_i i j
    cases hf; cases vx; cases vy
    exact .inl ⟨i, j, rfl, rfl, q _ φ H .refl rs .int⟩
  · rename_i a b
    split at hf
    · rename_i h
      cases hf; cases vx; cases vy
      exact .inr (.inl ⟨a, b, rfl, rfl, big h, q _ φ H .refl rs .str⟩)
    · cases hf
  · rename_i xs ys
    split at hf
    · rename_i h
      cases hf
      obtain ⟨a, vs, rfl, h1, h2⟩ := vx.tupI
      obtain ⟨b, ws, rfl, h3, h4⟩ := vy.tupI
      refine .inr (.inr (.inl ⟨a, b, vs, ws, rfl, rfl, h1, h3, big (by rw [h2.length, h4.length]; omega), fun e => ?_, fun e e' => ?_, fun e e' p hp => ?_⟩))
      · subst e
        have : xs = [] := by cases h2; rfl
        subst this
        exact q _ φ H .refl rs (.tup h3 h4)
      · subst e'
        have : ys = [] := by cases h4; rfl
        subst this
        rw [List.append_nil] at q
        exact q _ φ H .refl rs (.tup h1 h2)
      · obtain ⟨k, r⟩ := lay_tup (xs := vs ++ ws) rs hp
        exact q _ φ _ k r (.tup (.of upd_same) ((h2.app h4).mono k))
    · cases hf
  · rename_i l k
    split at hf
    · rename_i xs ys e1 e2
      split at hf
      · rename_i h
        cases hf
        obtain ⟨a, rfl, ha⟩ := vx.mutI
        obtain ⟨b, rfl, hb⟩ := vy.mutI
        obtain ⟨vs, g1, g2⟩ := rs.get l a xs ha e1
        obtain ⟨ws, g3, g4⟩ := rs.get k b ys hb e2
        refine .inr (.inr (.inr ⟨a, b, vs, ws, rfl, rfl, g1, g3, big (by rw [g2.length, g4.length]; omega), fun p hp => ?_⟩))
        obtain ⟨kx, r⟩ := lay_lst (xs := vs ++ ws) (ds := xs ++ ys) rs hp (g2.app g4)
        exact q _ _ _ kx r (.mu (by rw [← rs.len, List.getElem?_append_right (Nat.le_refl _)]; simp))
      · cases hf
    · cases hf
  · cases hf
/-- * -/
def fMul : FD2 := fun x y st => match x, y with
  | .int i, .int j => if i.natAbs.log2 + j.natAbs.log2 < 1000000 then some (.int (i * j), st) else none
  | .mu l, .int k => match st[l]? with
    | some xs => if 0 ≤ k ∧ k ≤ 1000 ∧ xs.length ≤ 1000 ∧ xs.length * k.toNat < 100000 then some (.mu st.length, st ++ [(List.replicate k.toNat xs).flatten]) else none
    | none => none
  | _, _ => none
def rMulA : R2 := fun x y H Q => rI CMulW (fun i j => .int (i * j)) x y H Q ∨ rRep x y H Q
theorem op_mulA : OpR X (binaryOp .Mult) rMulA := op_mulW.or op_rep
theorem VDs.rep {K : PySem.W.Frag} {H : Hp} {φ : List Addr} {vs : List V} {ds : List D} (h : VDs K H φ vs ds) : ∀ n : Nat, VDs K H φ (List.replicate n vs).flatten (List.replicate n ds).flatten
  | 0 => .nil
  | n + 1 => by
    rw [List.replicate_succ, List.replicate_succ, List.flatten_cons, List.flatten_cons]
    exact h.app (VDs.rep h n)
theorem opd_mul : OpD X rMulA fMul := by
  intro H φ st Q x y dx dy dz st' rs vx vy hf q
  unfold fMul at hf
  split at hf
  · rename_i i j
    split at hf
    · rename_i h
      cases hf; cases vx; cases vy
      exact .inl ⟨i, j, rfl, rfl, h, q _ φ H .refl rs .int⟩
    · cases hf
  · rename_i l k
    split at hf
    · rename_i xs e1
      split at hf
      · rename_i h
        cases hf
        obtain ⟨a, rfl, ha⟩ := vx.mutI
        cases vy
        obtain ⟨vs, g1, g2⟩ := rs.get l a xs ha e1
        refine .inr ⟨a, k, vs, rfl, rfl, g1, by omega, by omega, big (by rw [g2.length]; omega), fun p hp => ?_⟩
        obtain ⟨kx, r⟩ := lay_lst (xs := (List.replicate k.toNat vs).flatten) (ds := (List.replicate k.toNat xs).flatten) rs hp (g2.rep _)
        exact q _ _ _ kx r (.mu (by rw [← rs.len, List.getElem?_append_right (Nat.le_refl _)]; simp))
      · cases hf
    · cases hf
  · cases hf
/-- == and != of data -/
def eqD (x y : D) (st : Sto) : Option Bool := match dat st 64 x, dat st 64 y with
  | some p, some r => if p.canLay0 = true ∧ r.canLay0 = true then some (PyData.eqv p r) else none
  | _, _ => none
def fEq : FD2 := fun x y st => (eqD x y st).map fun b => (.bl b, st)
def fNe : FD2 := fun x y st => (eqD x y st).map fun b => (.bl !b, st)
theorem eqD_some {K : PySem.W.Frag} {H : Hp} {φ : List Addr} {st : Sto} {x y : D} {b : Bool} {v u : V} (rs : RS K H φ st) (vx : VD K H φ v x) (vy : VD K H φ u y) (h : eqD x y st = some b) :
    ∃ p r, Dp K H v p ∧ Dp K H u r ∧ SeqAt.shaped p = true ∧ SeqAt.shaped r = true ∧ b = PyData.eqv p r := by
  unfold eqD at h
  split at h
  · rename_i p r e1 e2
    split at h
    · rename_i c
      cases h
      obtain ⟨a1, a2⟩ := dat_dp rs 64 x v p vx e1
      obtain ⟨b1, b2⟩ := dat_dp rs 64 y u r vy e2
      refine ⟨p, r, a1, b1, ?_, ?_, rfl⟩
      · unfold SeqAt.shaped
        rw [c.1, decide_eq_true (by omega : p.depth ≤ 64)]; rfl
      · unfold SeqAt.shaped
        rw [c.2, decide_eq_true (by omega : r.depth ≤ 64)]; rfl
    · cases h
  · cases h
theorem opd_eq : OpD X (rEqD X.K) fEq := by
  intro H φ st Q x y dx dy dz st' rs vx vy hf q
  unfold fEq at hf
  cases e : eqD dx dy st with
  | none => rw [e] at hf; cases hf
  | some b =>
    rw [e] at hf; cases hf
    obtain ⟨p, r, h1, h2, h3, h4, rfl⟩ := eqD_some rs vx vy e
    exact ⟨p, r, h1, h2, h3, h4, q _ φ H .refl rs .bl⟩
theorem opd_ne : OpD X (rNeD X.K) fNe := by
  intro H φ st Q x y dx dy dz st' rs vx vy hf q
  unfold fNe at hf
  cases e : eqD dx dy st with
  | none => rw [e] at hf; cases hf
  | some b =>
    rw [e] at hf; cases hf
    obtain ⟨p, r, h1, h2, h3, h4, rfl⟩ := eqD_some rs vx vy e
    exact ⟨p, r, h1, h2, h3, h4, q _ φ H .refl rs .bl⟩
/-- x is None, x is not None -/
def isNonD : D → Bool
  | .non => true
  | _ => false
def fIsN : FD2 := fun x y st => match y with
  | .non => some (.bl (isNonD x), st)
  | _ => none
def fNotN : FD2 := fun x y st => match y with
  | .non => some (.bl (!isNonD x), st)
  | _ => none
theorem isNonD_ok {K : PySem.W.Frag} {H : Hp} {φ : List Addr} {v : V} {d : D} (h : VD K H φ v d) : decide (v = .non) = isNonD d := by
  cases h <;> rfl
theorem opd_isN : OpD X (fun x y H Q => y = .non ∧ Q (.bl (decide (x = .non))) H) fIsN := by
  intro H φ st Q x y dx dy dz st' rs vx vy hf q
  unfold fIsN at hf
  split at hf
  · cases hf; cases vy
    exact ⟨rfl, by rw [isNonD_ok vx]; exact q _ φ H .refl rs .bl⟩
  · cases hf
theorem opd_notN : OpD X (fun x y H Q => y = .non ∧ Q (.bl (!decide (x = .non))) H) fNotN := by
  intro H φ st Q x y dx dy dz st' rs vx vy hf q
  unfold fNotN at hf
  split at hf
  · cases hf; cases vy
    exact ⟨rfl, by rw [isNonD_ok vx]; exact q _ φ H .refl rs .bl⟩
  · cases hf
/-- a[i] -/
def fIx : FD2 := fun x y st => match x, y with
  | .tup ds, .int i => (atI ds i).map fun d => (d, st)
  | .mu l, .int i => (st[l]?).bind fun ds => (atI ds i).map fun d => (d, st)
  | .scr ns, .int i => (atI ns i).map fun d => (.int d, st)
  | _, _ => none
theorem atI_get {α : Type} {xs : List α} {i : Int} {x : α} (h : atI xs i = some x) : ∃ j, ixN xs.length i = some j ∧ xs[j]? = some x := by
  unfold atI at h
  cases e : ixN xs.length i with
  | none => rw [e] at h; cases h
  | some j => rw [e] at h; exact ⟨j, rfl, h⟩
theorem atI_mk {α : Type} {xs : List α} {i : Int} {x : α} {j : Nat} (h : ixN xs.length i = some j) (h2 : xs[j]? = some x) : atI xs i = some x := by
  unfold atI
  rw [h]; exact h2
def rIxA (K : PySem.W.Frag) : R2 := fun x y H Q => rIxL K x y H Q ∨ rIxT K x y H Q
theorem ix_A : IxR X (rIxA X.K) := ix_list.or ix_tup
theorem opd_ix : OpD X (rIxA X.K) fIx := by
  intro H φ st Q x y dx dy dz st' rs vx vy hf q
  unfold fIx at hf
  split at hf
  · rename_i ds i
    cases e : atI ds i with
    | none => rw [e] at hf; cases hf
    | some d =>
      rw [e] at hf; cases hf
      obtain ⟨a, vs, rfl, h1, h2⟩ := vx.tupI
      cases vy
      obtain ⟨j, e1, e2⟩ := atI_get e
      obtain ⟨v, e3, e4⟩ := h2.get e2
      exact .inr ⟨a, vs, i, v, rfl, rfl, h1, atI_mk (by rw [h2.length]; exact e1) e3, q _ φ H .refl rs e4⟩
  · rename_i l i
    cases e0 : st[l]? with
    | none => rw [e0] at hf; cases hf
    | some ds =>
      rw [e0] at hf
      replace hf : (atI ds i).map (fun d => (d, st)) = some (dz, st') := hf
      cases e : atI ds i with
      | none => rw [e] at hf; cases hf
      | some d =>
        rw [e] at hf; cases hf
        obtain ⟨a, rfl, ha⟩ := vx.mutI
        cases vy
        obtain ⟨vs, g1, g2⟩ := rs.get l a ds ha e0
        obtain ⟨j, e1, e2⟩ := atI_get e
        obtain ⟨v, e3, e4⟩ := g2.get e2
        exact .inl ⟨a, vs, i, v, rfl, rfl, .of g1, atI_mk (by rw [g2.length]; exact e1) e3, q _ φ H .refl rs e4⟩
  · rename_i ns i
    cases e : atI ns i with
    | none => rw [e] at hf; cases hf
    | some d =>
      rw [e] at hf; cases hf
      cases vx with
      | scr h1 =>
        cases vy
        obtain ⟨j, e1, e2⟩ := atI_get e
        exact .inl ⟨_, ns.map V.int, i, .int d, rfl, rfl, h1.sql, atI_mk (by rw [List.length_map]; exact e1) (by rw [List.getElem?_map, e2]; rfl), q _ φ H .refl rs .int⟩
  · cases hf
theorem de_ix {E : XK} {a b : Expr} {ma mb : MM D} {pos : Pos} (ha : DE X E a ma) (hb : DE X E b mb) (hs : PlainIx b) : DE X E (.Subscript a b pos) (mOp fIx ma mb) :=
  pe_imp (pe_ix ix_A ha hb hs) fun σ H Q h => op_bnd opd_ix h
end
end M2
set_option Elab.async false
set_option linter.all false
set_option maxRecDepth 100000
set_option maxHeartbeats 2000000
namespace M2
open PySem PySem.Spec PyProof.Rows L2

/-! ### a def's promise where nothing is being shown -/
structure FnG (P : Program) (w : World) (K : PySem.W.Frag) (mg : Str → Option Value) (base : Heap) (CX : CXT) (k : Nat) (f : Addr) (fd : FuncData) (ps : List Str) (sp : Sp) : Prop where
  len : ∀ vs H Q E, sp vs H Q E → vs.length = ps.length
  run : ∀ (A : Around) (ou : List Env) (s : Shared) (H : Hp) (ar : Args) (us : List Value) (vs : List V) (Q : VK) (E : XK), A.guards = some [] → Room k A → Env0 P w K mg base A ou s H →
    BindsTo s fd ar (ps.zip us) → Vals vs us → sp vs H Q E → codeAny (model P w) A (.call (.ref f) ar) (CR CX ou P w H s Q E) s
theorem FnG.mono {P : Program} {w : World} {K : PySem.W.Frag} {mg : Str → Option Value} {base : Heap} {CX : CXT} {j k : Nat} {f : Addr} {fd : FuncData} {ps : List Str} {sp : Sp} (F : FnG P w K mg base CX j f fd ps sp) (h : j ≤ k) : FnG P w K mg base CX k f fd ps sp :=
  ⟨F.len, fun A ou s H ar us vs Q E hg hr => F.run A ou s H ar us vs Q E hg (hr.mono h)⟩
section
variable {P : Program} {w : World} {K : PySem.W.Frag} {mg : Str → Option Value} {base : Heap}
theorem fng_of {CX : CXT} {k : Nat} {f : Addr} {x q : Str} {st : Stmt} {fd : FuncData} {N ps : List Str} {sp : Sp} (F : Fun K x q st f fd) (S : FnScope N ps (defScope st)) (len : ∀ vs H Q E, sp vs H Q E → vs.length = ps.length)
    (body : ∀ (cd : Value) (A : Around) (ou : List Env) (s : Shared) (H : Hp) (vs : List V) (Q : VK) (E : XK), A.guards = some [] → Room k (A.deeper (envOfC q (defScope st) s.heap.objs.size f cd)) → sp vs H Q E →
      ∃ t, PSs (cxOf CX P w K mg base N q (defScope st) f cd A ou s H E) (defBody st) t ∧ t { nx := fun _ H' => Q .non H', rt := Q } (start N vs) H) :
    FnG P w K mg base CX (k + 1) f fd ps sp := by
  obtain ⟨oc, od, kV, dc, pm, an, cdv, ct, osl, rfl, lk, hcd⟩ := F.ex
  refine ⟨len, fun A ou s H ar us vs Q E hgd room en0 bnds rel want => ?_⟩
  have inK : K.In s.heap := en0.mod.kin.keeps fun b o e => (en0.bs b o e).1
  have nolim : s.heap.NoLimit := en0.mod.nolimit.keeps fun b o e => (en0.bs b o e).1
  obtain ⟨t, tPs, tQ⟩ := body cdv A ou s H vs Q E hgd (room.deeper _) want
  have cellP : ∀ y ∈ ps.zip us, (defScope st).names.lookup y.1 = some .local ∨
      ((defScope st).names.lookup y.1 = some .cell ∧ ((cellsFrom (s.heap.objs.size + 1) (defScope st).names []).lookup y.1).isSome = true) := by
    rintro ⟨n, v⟩ hy
    exact (S.par n (List.of_mem_zip hy).1).imp id fun z => ⟨z, PySem.W.cellsFrom_some _ _ _ (.inl z)⟩
  have ends : ∀ {τ : L2.St} {H2 : Hp} {v : V} {u : Value} {s2 : Shared}, Inv (cxOf CX P w K mg base N q (defScope st) f cdv A ou s H E) [] τ H2 s2 → RelV v u → Q v H2 → CE ou P w H s Q u s2 :=
    fun J rv qv => ⟨_, _, J.os, J.bare, J.base, J.hok, rv, qv⟩
  refine codeAny_call_function room.depth (inK _ _ lk) rfl S.co S.gen rfl (PySem.W.codeRec_of inK hcd) (bnds _ _ _ _ (wpAny_newFunctionEnv_cells S.kind cellP fun env he s1 made => ?_))
  subst he
  refine ⟨nolim.keeps made.toInCall.keep, codeAny_func ?_⟩
  have I0 := inv_start (CX := CX) (E := E) S room.hd en0 (len _ _ _ _ want) rel made
  refine wpAny_mono (tPs.run [] s1 (start N vs) H _ I0 tQ) (fun fl s2 z => ?_) fun _ _ z => z
  match fl, z with
  | .ret u, ⟨v, τ, H2, J, rv, qv⟩ => exact ends J rv qv
  | .next, ⟨τ, H2, J, qv⟩ => exact ends (v := V.non) (u := Value.none) J rfl qv
  | .brk, ⟨_, _, _, qv⟩ => exact qv.elim
  | .cont, ⟨_, _, _, qv⟩ => exact qv.elim
end

section
variable {X : Cx} {CX : CXT} {k : Nat} {f : Addr} {fd : FuncData} {ps : List Str} {sp : Sp} {E : XK} {x : Str} {p pos : Pos} {e : Expr} {es : List Expr} {t : TA}
theorem pe_callG (F : FnG X.prog X.w X.K X.mg X.base CX k f fd ps sp) (hgd : X.A.guards = some []) (hr : Room k X.A) (hg : Gl X x) (hm : X.mg x = some (.ref f)) (hk : PySem.W.keepIn X.K (.ref f) = true) (hb : Binds X.K fd ps []) (hx : Passes CX X E)
    (ha : PA X (e :: es) t) (hdb : (x == ("__debug__" : Str)) = false) (he : starEach (e :: es) X.env = (false, eval e X.env) :: starEach es X.env) (hpl : (backTo pos (starEach es X.env)).any (·.1) = false) :
    PE X (.Call (.Name x p) (e :: es) [] pos) (fun σ H Q => t σ H fun vs H1 => sp vs H1 Q E) := by
  refine ⟨fun pins s σ H Q I h => wpAny_Call_Name_kw (ld_glob I hg hm (PySem.W.callWith_K (h₀ := X.base) I.ok.mod.kin hk ?_ he hpl) hdb)⟩
  refine thn (ha.run pos pins s σ H _ I h) fun us s1 ⟨vs, H1, I1, r, q⟩ => ⟨I1.kIn, wpAny_call (codeAny_mono (F.run X.A X.stack s1 H1 ⟨us, []⟩ us vs Q E hgd hr I1.env0 ?_ r q) fun res s2 z => ?_)⟩
  · have hz := hb s1 us I1.kIn (by rw [List.append_nil, ← r.length]; exact F.len _ _ _ _ q)
    rwa [List.append_nil] at hz
  · match res, z with
    | .error er, z => exact hx pins σ H1 s1 er s2 I1 z
    | .ok (.ret u), z => exact I1.after z
theorem pe_callG0 (F : FnG X.prog X.w X.K X.mg X.base CX k f fd ps sp) (hgd : X.A.guards = some []) (hr : Room k X.A) (hg : Gl X x) (hm : X.mg x = some (.ref f)) (hk : PySem.W.keepIn X.K (.ref f) = true) (hb : Binds X.K fd ps []) (hx : Passes CX X E)
    (hdb : (x == ("__debug__" : Str)) = false) :
    PE X (.Call (.Name x p) [] [] pos) (fun σ H Q => sp [] H Q E) := by
  refine ⟨fun pins s σ H Q I h => wpAny_Call_Name_kw (ld_glob I hg hm ?_ hdb)⟩
  refine PySem.W.callWith_K0 I.kIn hk (wpAny_call (codeAny_mono (F.run X.A X.stack s H ⟨[], []⟩ [] [] Q E hgd hr I.env0 ?_ .nil h) fun res s2 z => ?_))
  · have hz := hb s [] I.kIn (by rw [List.append_nil]; exact F.len _ _ _ _ h)
    rwa [List.append_nil] at hz
  · match res, z with
    | .error er, z => exact hx pins σ H s er s2 I z
    | .ok (.ret u), z => exact I.after z
end

/-! ### a def by its mirror -/
abbrev FD := List D → Sto → Option (Except Addr D × Sto)
def spF (K : PySem.W.Frag) (n : Nat) (F : FD) : Sp := fun vs H Q E => ∃ ds st φ r st', VDs K H φ vs ds ∧ RS K H φ st ∧ ds.length = n ∧ F ds st = some (r, st') ∧
  ∀ φ' H', KX H φ H' φ' → RS K H' φ' st' → Pst E (fun d φ' H' => ∀ v, VD K H' φ' v d → Q v H') r φ' H'
structure Df (P : Program) (w : World) (K : PySem.W.Frag) (mg : Str → Option Value) (base : Heap) (x : Str) (k n : Nat) (F : FD) : Prop where
  ex : ∃ (f : Addr) (fd : FuncData) (ps : List Str), mg x = some (.ref f) ∧ PySem.W.keepIn K (.ref f) = true ∧ Binds K fd ps [] ∧ FnG P w K mg base (L2.CX P w) k f fd ps (spF K n F)
def mCall (n : Nat) (F : FD) (m : MM (List D)) : MM D := bnd m fun ds => fun _ st => if ds.length = n then F ds st else none
section
variable {X : Cx} {E : XK} {x : Str} {p pos : Pos} {e : Expr} {es : List Expr} {m : MM (List D)} {k n : Nat} {F : FD}
theorem de_call (d : Df X.prog X.w X.K X.mg X.base x k n F) (hgd : X.A.guards = some []) (hr : Room k X.A) (hx : Passes (L2.CX X.prog X.w) X E) (hg : Gl X x) (ha : DA X E (e :: es) m)
    (hdb : (x == ("__debug__" : Str)) = false) (he : starEach (e :: es) X.env = (false, eval e X.env) :: starEach es X.env) (hpl : (backTo pos (starEach es X.env)).any (·.1) = false) :
    DE X E (.Call (.Name x p) (e :: es) [] pos) (mCall n F m) := by
  obtain ⟨f, fd, ps, hm, hk, hb, hF⟩ := d.ex
  refine pe_imp (pe_callG hF hgd hr hg hm hk hb hx ha hdb he hpl) fun σ H Q ⟨en, st, φ, g⟩ => ⟨en, st, φ, g.bind.imp fun st1 ds φ1 H1 _ _ ⟨k1, r1, g1⟩ vs hv => ?_⟩
  obtain ⟨re, rs, r, st', em, q⟩ := g1
  split at em
  · rename_i hn
    exact ⟨ds, st1, φ1, r, st', hv, r1, hn, em, q⟩
  · cases em
theorem de_call0 (d : Df X.prog X.w X.K X.mg X.base x k 0 F) (hgd : X.A.guards = some []) (hr : Room k X.A) (hx : Passes (L2.CX X.prog X.w) X E) (hg : Gl X x) (hdb : (x == ("__debug__" : Str)) = false) :
    DE X E (.Call (.Name x p) [] [] pos) (mCall 0 F (mArgs [])) := by
  obtain ⟨f, fd, ps, hm, hk, hb, hF⟩ := d.ex
  refine pe_imp (pe_callG0 hF hgd hr hg hm hk hb hx hdb) fun σ H Q ⟨en, st, φ, g⟩ => ?_
  obtain ⟨re, rs, r, st', em, q⟩ := g
  exact ⟨[], st, φ, r, st', .nil, rs, rfl, em, q⟩
end

/-! ### built-in functions by data -/
abbrev FDB := List D → Sto → Option (D × Sto)
def CalD (X : Cx) (r : List V → Hp → VK → Prop) (f : FDB) : Prop := ∀ H φ st (Q : VK) vs ds dz st', RS X.K H φ st → VDs X.K H φ vs ds → f ds st = some (dz, st') → (∀ v φ' H', KX H φ H' φ' → RS X.K H' φ' st' → VD X.K H' φ' v dz → Q v H') → r vs H Q
def mBlt (f : FDB) (m : MM (List D)) : MM D := bnd m fun ds => stm (f ds)
section
variable {X : Cx} {E : XK} {x : Str} {p pos : Pos} {e : Expr} {es : List Expr} {m : MM (List D)} {id T : String} {r : List V → Hp → VK → Prop} {f : FDB}
theorem blt_bnd {σ : L2.St} {H : Hp} {Q : VK} (hf : CalD X r f) (h : tM X.K E (mBlt f m) σ H Q) : tCB r (tAM X.K E m) σ H Q := by
  obtain ⟨en, st, φ, g⟩ := h
  refine ⟨en, st, φ, g.bind.imp fun st1 ds φ1 H1 _ _ ⟨k1, r1, g1⟩ vs hv => ?_⟩
  obtain ⟨dz, st', hz, q⟩ := g1.stm
  exact hf H1 φ1 st1 Q vs ds dz st' r1 hv hz fun v φ' H' kx rs' vd => q φ' H' kx rs' v vd
theorem de_blt (hc : CallR X (.builtin id) r) (hf : CalD X r f) (hg : Gl X x) (hm : X.mg x = none) (hv : bootBuiltins x = some (.builtin id)) (ha : DA X E (e :: es) m) (hn : x ≠ "__name__") (hdb : (x == ("__debug__" : Str)) = false)
    (he : starEach (e :: es) X.env = (false, eval e X.env) :: starEach es X.env) (hpl : (backTo pos (starEach es X.env)).any (·.1) = false) : DE X E (.Call (.Name x p) (e :: es) [] pos) (mBlt f m) :=
  pe_imp (pe_callB hc hg hm hv ha hn hdb he hpl) fun σ H Q h => blt_bnd hf h
theorem de_bty (hc : CallR X (.type T) r) (hf : CalD X r f) (hg : Gl X x) (hm : X.mg x = none) (hv : bootBuiltins x = some (.type T)) (ha : DA X E (e :: es) m) (hn : x ≠ "__name__") (hdb : (x == ("__debug__" : Str)) = false)
    (he : starEach (e :: es) X.env = (false, eval e X.env) :: starEach es X.env) (hpl : (backTo pos (starEach es X.env)).any (·.1) = false) : DE X E (.Call (.Name x p) (e :: es) [] pos) (mBlt f m) :=
  pe_imp (pe_callTy hc hg hm hv ha hn hdb he hpl) fun σ H Q h => blt_bnd hf h
theorem VDs.one {K : PySem.W.Frag} {H : Hp} {φ : List Addr} {vs : List V} {d : D} (h : VDs K H φ vs [d]) : ∃ v, vs = [v] ∧ VD K H φ v d := by
  cases h with
  | cons h1 h2 => cases h2; exact ⟨_, rfl, h1⟩
theorem VDs.two {K : PySem.W.Frag} {H : Hp} {φ : List Addr} {vs : List V} {d e : D} (h : VDs K H φ vs [d, e]) : ∃ v u, vs = [v, u] ∧ VD K H φ v d ∧ VD K H φ u e := by
  cases h with
  | cons h1 h2 => obtain ⟨u, rfl, h3⟩ := h2.one; exact ⟨_, u, rfl, h1, h3⟩
/-- len -/
def fLen : FDB := fun ds st => match ds with
  | [.tup xs] => some (.int xs.length, st)
  | [.mu l] => (st[l]?).map fun xs => (.int xs.length, st)
  | [.scr ns] => some (.int ns.length, st)
  | _ => none
theorem cal_len : CalD X (fun xs H Q => ∃ p ys, xs = [.ref p] ∧ (SqL X.K H p ys ∨ SqT X.K H p ys) ∧ Q (.int ys.length) H) fLen := by
  intro H φ st Q vs ds dz st' rs hv hf q
  unfold fLen at hf
  split at hf
  · cases hf
    obtain ⟨v, rfl, h⟩ := hv.one
    obtain ⟨a, ws, rfl, h1, h2⟩ := h.tupI
    exact ⟨a, ws, rfl, .inr h1, by rw [h2.length]; exact q _ φ H .refl rs .int⟩
  · rename_i l
    cases e : st[l]? with
    | none => rw [e] at hf; cases hf
    | some xs =>
      rw [e] at hf; cases hf
      obtain ⟨v, rfl, h⟩ := hv.one
      obtain ⟨a, rfl, ha⟩ := h.mutI
      obtain ⟨ws, g1, g2⟩ := rs.get l a xs ha e
      exact ⟨a, ws, rfl, .inl (.of g1), by rw [g2.length]; exact q _ φ H .refl rs .int⟩
  · rename_i ns
    cases hf
    obtain ⟨v, rfl, h⟩ := hv.one
    cases h with
    | scr h1 => exact ⟨_, _, rfl, .inl h1.sql, by rw [List.length_map]; exact q _ φ H .refl rs .int⟩
  · cases hf
/-- max(i, j), min(i, j) -/
def fMax2 : FDB := fun ds st => match ds with
  | [.int i, .int j] => some (.int (if j > i then j else i), st)
  | _ => none
def fMin2 : FDB := fun ds st => match ds with
  | [.int i, .int j] => some (.int (if j < i then j else i), st)
  | _ => none
theorem cal_max2 : CalD X (fun xs H Q => ∃ i j, xs = [.int i, .int j] ∧ Q (.int (if j > i then j else i)) H) fMax2 := by
  intro H φ st Q vs ds dz st' rs hv hf q
  unfold fMax2 at hf
  split at hf
  · cases hf
    obtain ⟨v, u, rfl, h1, h2⟩ := hv.two
    cases h1; cases h2
    exact ⟨_, _, rfl, q _ φ H .refl rs .int⟩
  · cases hf
theorem cal_min2 : CalD X (fun xs H Q => ∃ i j, xs = [.int i, .int j] ∧ Q (.int (if j < i then j else i)) H) fMin2 := by
  intro H φ st Q vs ds dz st' rs hv hf q
  unfold fMin2 at hf
  split at hf
  · cases hf
    obtain ⟨v, u, rfl, h1, h2⟩ := hv.two
    cases h1; cases h2
    exact ⟨_, _, rfl, q _ φ H .refl rs .int⟩
  · cases hf
/-- a list of ints, of bools -/
def intsD : List D → Option (List Int)
  | [] => some []
  | .int i :: r => (intsD r).map (i :: ·)
  | _ :: _ => none
theorem intsD_eq : ∀ {ds : List D} {ns : List Int}, intsD ds = some ns → ds = ns.map D.int
  | [], ns, h => by unfold intsD at h; cases h; rfl
  | .int i :: r, ns, h => by
    unfold intsD at h
    cases e : intsD r with
    | none => rw [e] at h; cases h
    | some ms => rw [e] at h; cases h; rw [intsD_eq e]; rfl
theorem intsD_map : ∀ (ns : List Int), intsD (ns.map D.int) = some ns
  | [] => rfl
  | n :: ns => by
    show (intsD (ns.map D.int)).map (n :: ·) = _
    rw [intsD_map ns]; rfl
def blsD : List D → Option (List Bool)
  | [] => some []
  | .bl i :: r => (blsD r).map (i :: ·)
  | _ :: _ => none
theorem blsD_eq : ∀ {ds : List D} {ns : List Bool}, blsD ds = some ns → ds = ns.map D.bl
  | [], ns, h => by unfold blsD at h; cases h; rfl
  | .bl i :: r, ns, h => by
    unfold blsD at h
    cases e : blsD r with
    | none => rw [e] at h; cases h
    | some ms => rw [e] at h; cases h; rw [blsD_eq e]; rfl
theorem blsD_map : ∀ (ns : List Bool), blsD (ns.map D.bl) = some ns
  | [] => rfl
  | n :: ns => by
    show (blsD (ns.map D.bl)).map (n :: ·) = _
    rw [blsD_map ns]; rfl
def onInts (f : List Int → Option Int) : FDB := fun ds st => match ds with
  | [.mu l] => ((st[l]?).bind intsD).bind fun ns => (f ns).map fun i => (.int i, st)
  | _ => none
theorem onInts_some {f : List Int → Option Int} {ds : List D} {st st' : Sto} {dz : D} (h : onInts f ds st = some (dz, st')) : ∃ l ns i, ds = [.mu l] ∧ st[l]? = some (ns.map D.int) ∧ f ns = some i ∧ dz = .int i ∧ st' = st := by
  unfold onInts at h
  split at h
  · rename_i l
    cases e : st[l]? with
    | none => rw [e] at h; cases h
    | some xs =>
      rw [e] at h
      cases e2 : intsD xs with
      | none => rw [show ((some xs).bind intsD) = intsD xs from rfl, e2] at h; cases h
      | some ns =>
        rw [show ((some xs).bind intsD) = intsD xs from rfl, e2] at h
        cases e3 : f ns with
        | none => rw [show ((some ns).bind fun ns => (f ns).map fun i => (D.int i, st)) = (f ns).map (fun i => (D.int i, st)) from rfl, e3] at h; cases h
        | some i =>
          rw [show ((some ns).bind fun ns => (f ns).map fun i => (D.int i, st)) = (f ns).map (fun i => (D.int i, st)) from rfl, e3] at h
          cases h
          exact ⟨l, ns, i, rfl, by rw [e, intsD_eq e2], e3, rfl, rfl⟩
  · cases h
def fSum : FDB := onInts fun ns => some ns.sum
theorem cal_sum : CalD X (rSum X.K) fSum := by
  intro H φ st Q vs ds dz st' rs hv hf q
  obtain ⟨l, ns, i, rfl, e, hi, rfl, rfl⟩ := onInts_some hf
  cases hi
  obtain ⟨v, rfl, h⟩ := hv.one
  obtain ⟨a, rfl, ha⟩ := h.mutI
  obtain ⟨ws, g1, g2⟩ := rs.get l a _ ha e
  exact ⟨a, ns, rfl, by rw [← g2.ints]; exact .of g1, q _ φ H .refl rs .int⟩
def maxL : List Int → Option Int
  | [] => none
  | n :: ns => some (ns.foldl max n)
def minL : List Int → Option Int
  | [] => none
  | n :: ns => some (ns.foldl min n)
theorem foldl_max : ∀ (ns : List Int) (n : Int), (ns.foldl max n = n ∨ ns.foldl max n ∈ ns) ∧ n ≤ ns.foldl max n ∧ ∀ y ∈ ns, y ≤ ns.foldl max n
  | [], n => ⟨.inl rfl, Int.le_refl _, fun _ h => nomatch h⟩
  | a :: r, n => by
    obtain ⟨h1, h2, h3⟩ := foldl_max r (max n a)
    simp only [List.foldl_cons]
    refine ⟨?_, by omega, fun y hy => ?_⟩
    · rcases h1 with h1 | h1
      · rw [h1]
        by_cases c : n ≤ a
        · exact .inr (by rw [show max n a = a by omega]; exact List.mem_cons_self)
        · exact .inl (by omega)
      · exact .inr (List.mem_cons_of_mem _ h1)
    · rcases List.mem_cons.mp hy with rfl | hy
      · omega
      · exact h3 y hy
theorem foldl_min : ∀ (ns : List Int) (n : Int), (ns.foldl min n = n ∨ ns.foldl min n ∈ ns) ∧ ns.foldl min n ≤ n ∧ ∀ y ∈ ns, ns.foldl min n ≤ y
  | [], n => ⟨.inl rfl, Int.le_refl _, fun _ h => nomatch h⟩
  | a :: r, n => by
    obtain ⟨h1, h2, h3⟩ := foldl_min r (min n a)
    simp only [List.foldl_cons]
    refine ⟨?_, by omega, fun y hy => ?_⟩
    · rcases h1 with h1 | h1
      · rw [h1]
        by_cases c : a ≤ n
        · exact .inr (by rw [show min n a = a by omega]; exact List.mem_cons_self)
        · exact .inl (by omega)
      · exact .inr (List.mem_cons_of_mem _ h1)
    · rcases List.mem_cons.mp hy with rfl | hy
      · omega
      · exact h3 y hy
theorem maxL_some {ns : List Int} {m : Int} (h : maxL ns = some m) : m ∈ ns ∧ ∀ y ∈ ns, y ≤ m := by
  cases ns with
  | nil => cases h
  | cons n ns =>
    cases h
    obtain ⟨h1, h2, h3⟩ := foldl_max ns n
    refine ⟨?_, fun y hy => ?_⟩
    · rcases h1 with h1 | h1
      · rw [h1]; exact List.mem_cons_self
      · exact List.mem_cons_of_mem _ h1
    · rcases List.mem_cons.mp hy with rfl | hy
      · exact h2
      · exact h3 y hy
theorem minL_some {ns : List Int} {m : Int} (h : minL ns = some m) : m ∈ ns ∧ ∀ y ∈ ns, m ≤ y := by
  cases ns with
  | nil => cases h
  | cons n ns =>
    cases h
    obtain ⟨h1, h2, h3⟩ := foldl_min ns n
    refine ⟨?_, fun y hy => ?_⟩
    · rcases h1 with h1 | h1
      · rw [h1]; exact List.mem_cons_self
      · exact List.mem_cons_of_mem _ h1
    · rcases List.mem_cons.mp hy with rfl | hy
      · exact h2
      · exact h3 y hy
def fMaxL : FDB := onInts maxL
def fMinL : FDB := onInts minL
theorem cal_maxL : CalD X (rMax X.K) fMaxL := by
  intro H φ st Q vs ds dz st' rs hv hf q
  obtain ⟨l, ns, i, rfl, e, hi, rfl, rfl⟩ := onInts_some hf
  obtain ⟨v, rfl, h⟩ := hv.one
  obtain ⟨a, rfl, ha⟩ := h.mutI
  obtain ⟨ws, g1, g2⟩ := rs.get l a _ ha e
  obtain ⟨m1, m2⟩ := maxL_some hi
  refine ⟨a, ns, rfl, by rw [← g2.ints]; exact .of g1, List.length_pos_of_mem m1, fun m hm hall => ?_⟩
  have e2 : m = i := Int.le_antisymm (m2 m hm) (hall i m1)
  rw [e2]
  exact q _ φ H .refl rs .int
theorem cal_minL : CalD X (rMin X.K) fMinL := by
  intro H φ st Q vs ds dz st' rs hv hf q
  obtain ⟨l, ns, i, rfl, e, hi, rfl, rfl⟩ := onInts_some hf
  obtain ⟨v, rfl, h⟩ := hv.one
  obtain ⟨a, rfl, ha⟩ := h.mutI
  obtain ⟨ws, g1, g2⟩ := rs.get l a _ ha e
  obtain ⟨m1, m2⟩ := minL_some hi
  refine ⟨a, ns, rfl, by rw [← g2.ints]; exact .of g1, List.length_pos_of_mem m1, fun m hm hall => ?_⟩
  have e2 : m = i := Int.le_antisymm (hall i m1) (m2 m hm)
  rw [e2]
  exact q _ φ H .refl rs .int
/-- all, any of a list of bools -/
def fAll : FDB := fun ds st => match ds with
  | [.mu l] => ((st[l]?).bind blsD).map fun bs => (.bl (bs.all fun b => b), st)
  | _ => none
theorem cal_all : CalD X (rAll X.K) fAll := by
  intro H φ st Q vs ds dz st' rs hv hf q
  unfold fAll at hf
  split at hf
  · rename_i l
    cases e : st[l]? with
    | none => rw [e] at hf; cases hf
    | some xs =>
      rw [e] at hf
      cases e2 : blsD xs with
      | none => rw [show ((some xs).bind blsD) = blsD xs from rfl, e2] at hf; cases hf
      | some bs =>
        rw [show ((some xs).bind blsD) = blsD xs from rfl, e2] at hf
        cases hf
        obtain ⟨v, rfl, h⟩ := hv.one
        obtain ⟨a, rfl, ha⟩ := h.mutI
        obtain ⟨ws, g1, g2⟩ := rs.get l a _ ha e
        rw [blsD_eq e2] at g2
        exact ⟨a, bs, rfl, by rw [← g2.bls]; exact .of g1, q _ φ H .refl rs .bl⟩
  · cases hf
/-- tuple(list), tuple(tuple), list(..) -/
def fTuple : FDB := fun ds st => match ds with
  | [.tup xs] => some (.tup xs, st)
  | [.mu l] => (st[l]?).map fun xs => (.tup xs, st)
  | _ => none
theorem cal_tuple : CalD X (fun xs H Q => ∃ p ys, xs = [.ref p] ∧ ((SqL X.K H p ys ∧ ∀ l, H l = none → Q (.ref l) (upd H l (.tup ys))) ∨ (SqT X.K H p ys ∧ Q (.ref p) H))) fTuple := by
  intro H φ st Q vs ds dz st' rs hv hf q
  unfold fTuple at hf
  split at hf
  · cases hf
    obtain ⟨v, rfl, h⟩ := hv.one
    obtain ⟨a, ws, rfl, h1, h2⟩ := h.tupI
    exact ⟨a, ws, rfl, .inr ⟨h1, q _ φ H .refl rs (.tup h1 h2)⟩⟩
  · rename_i l
    cases e : st[l]? with
    | none => rw [e] at hf; cases hf
    | some xs =>
      rw [e] at hf; cases hf
      obtain ⟨v, rfl, h⟩ := hv.one
      obtain ⟨a, rfl, ha⟩ := h.mutI
      obtain ⟨ws, g1, g2⟩ := rs.get l a xs ha e
      refine ⟨a, ws, rfl, .inl ⟨.of g1, fun p hp => ?_⟩⟩
      obtain ⟨kx, r⟩ := lay_tup (xs := ws) rs hp
      exact q _ φ _ kx r (.tup (.of upd_same) (g2.mono kx))
  · cases hf
def fList : FDB := fun ds st => match ds with
  | [.tup xs] => some (.mu st.length, st ++ [xs])
  | [.mu l] => (st[l]?).map fun xs => (.mu st.length, st ++ [xs])
  | _ => none
theorem cal_list : CalD X (fun xs H Q => ∃ p ys, xs = [.ref p] ∧ (SqL X.K H p ys ∨ SqT X.K H p ys) ∧ ∀ l, H l = none → Q (.ref l) (upd H l (.lst ys))) fList := by
  intro H φ st Q vs ds dz st' rs hv hf q
  have fin : ∀ {p : Addr} {ws : List V} {xs : List D}, H p = none → VDs X.K H φ ws xs → dz = .mu st.length → st' = st ++ [xs] → Q (.ref p) (upd H p (.lst ws)) := fun {p ws xs} hp g e1 e2 => by
    subst e1 e2
    obtain ⟨kx, r⟩ := lay_lst (xs := ws) (ds := xs) rs hp g
    exact q _ _ _ kx r (.mu (by rw [← rs.len, List.getElem?_append_right (Nat.le_refl _)]; simp))
  unfold fList at hf
  split at hf
  · cases hf
    obtain ⟨v, rfl, h⟩ := hv.one
    obtain ⟨a, ws, rfl, h1, h2⟩ := h.tupI
    exact ⟨a, ws, rfl, .inr h1, fun p hp => fin hp h2 rfl rfl⟩
  · rename_i l
    cases e : st[l]? with
    | none => rw [e] at hf; cases hf
    | some xs =>
      rw [e] at hf; cases hf
      obtain ⟨v, rfl, h⟩ := hv.one
      obtain ⟨a, rfl, ha⟩ := h.mutI
      obtain ⟨ws, g1, g2⟩ := rs.get l a xs ha e
      exact ⟨a, ws, rfl, .inl (.of g1), fun p hp => fin hp g2 rfl rfl⟩
  · cases hf
/-- isinstance(x, a built-in type) -/
def tyN : D → Option String
  | .non => some "NoneType"
  | .bl _ => some "bool"
  | .int _ => some "int"
  | .str _ => some "str"
  | .tup _ => some "tuple"
  | .mu _ => some "list"
  | .scr _ => some "list"
  | _ => none
def fIsi : FDB := fun ds st => match ds with
  | [d, .ty n] => (tyN d).bind fun t => (kitB t n).map fun b => (.bl b, st)
  | _ => none
theorem tyN_ok {H : Hp} {φ : List Addr} {st : Sto} {v : V} {d : D} {t : String} (K : PySem.W.Frag) (rs : RS K H φ st) (h : VD K H φ v d) (e : tyN d = some t) : TyX K H v (.type t) := by
  cases h with
  | non => cases e; exact .base .non
  | bl => cases e; exact .base (.bl _)
  | int => cases e; exact .base (.int _)
  | str => cases e; exact .base (.str _)
  | tup h1 h2 =>
    cases e
    rcases h1 with (h1 | ⟨o, h1⟩) | ⟨o, its, n, h1, h2, _⟩
    · exact .base (.tup h1)
    · exact .fTuple h1
    · exact .kTuple h1 h2
  | @mu l a h1 =>
    cases e
    have hl : l < st.length := by rw [← rs.len]; exact (List.getElem?_eq_some_iff.mp h1).1
    obtain ⟨ws, g, _⟩ := rs.get l a st[l] h1 (List.getElem?_eq_getElem hl)
    exact .base (.lst g)
  | scr h1 =>
    cases e
    rcases h1 with ⟨o, h1⟩ | ⟨o, its, n, h1, h2, _⟩
    · exact .base (.frz h1)
    · exact .kList h1 h2
  | ty => cases e
  | cls => cases e
theorem cal_isi : CalD X (rIsi X.K) fIsi := by
  intro H φ st Q vs ds dz st' rs hv hf q
  unfold fIsi at hf
  split at hf
  · rename_i d n
    cases e : tyN d with
    | none => rw [e] at hf; cases hf
    | some t =>
      rw [e] at hf
      replace hf : (kitB t n).map (fun b => (D.bl b, st)) = some (dz, st') := hf
      cases e2 : kitB t n with
      | none => rw [e2] at hf; cases hf
      | some b =>
        rw [e2] at hf; cases hf
        obtain ⟨v, u, rfl, h1, h2⟩ := hv.two
        cases h2
        exact ⟨v, .ty n, .type t, .type n, b, rfl, .ty n, tyN_ok X.K rs h1 e, kit_ty e2, q _ φ H .refl rs .bl⟩
  · cases hf
/-- repr of data -/
def fRepr : FDB := fun ds st => match ds with
  | [d] => (dat st 64 d).bind fun p => if p.canLay0 = true ∧ p.showable = true ∧ p.shown.length ≤ sizeLine then some (.str p.shown, st) else none
  | _ => none
def rRepr (K : PySem.W.Frag) : List V → Hp → VK → Prop := fun xs H Q => ∃ v p, xs = [v] ∧ Dp K H v p ∧ p.depth ≤ 64 ∧ p.canLay0 = true ∧ p.showable = true ∧ p.shown.length ≤ sizeLine ∧ Q (.str p.shown) H
theorem call_reprD (hgd : X.A.guards = some []) (hu : X.A.units + 66 < cLine) : CallR X (.builtin "repr") (rRepr X.K) := by
  intro pins s σ H xs us Q I r h
  obtain ⟨v, p, rfl, hd, hdp, hcl, hs, hz, q⟩ := h
  obtain ⟨u, rfl, ru⟩ := vals1 r
  obtain ⟨as, rd⟩ := Dp.reads I p v u hd ru
  cases rd with
  | none => simp only [PyData.shown] at q; exact PySem.P.repr_of_none ⟨.str _, H, I.tok _, ⟨_, rfl⟩, q⟩
  | bool b => simp only [PyData.shown] at q; exact PySem.P.repr_of_bool ⟨.str _, H, I.tok _, ⟨_, rfl⟩, q⟩
  | int i t => simp only [PyData.shown] at q; exact PySem.P.repr_of_int (by simpa [PyData.showable] using hs) ⟨.str _, H, I.tok _, ⟨_, rfl⟩, q⟩
  | str x t => simp only [PyData.shown] at q hz; exact PySem.P.repr_of_str ⟨.str _, H, I.tok _, ⟨_, rfl⟩, q⟩ hz
  | list h1 h2 h3 h4 =>
    exact repr_of_reads' (.list h1 h2 h3 h4) hs (fun z => absurd ((PyData.hasDict_of_canLay _ hcl).symm.trans z) Bool.false_ne_true) hgd (by omega) (fun _ _ e => e) (fun h' t tk hk => ⟨.str _, H, I.kept hk, ⟨_, rfl⟩, q⟩) hz
  | tuple h1 h2 h3 h4 =>
    exact repr_of_reads' (.tuple h1 h2 h3 h4) hs (fun z => absurd ((PyData.hasDict_of_canLay _ hcl).symm.trans z) Bool.false_ne_true) hgd (by omega) (fun _ _ e => e) (fun h' t tk hk => ⟨.str _, H, I.kept hk, ⟨_, rfl⟩, q⟩) hz
  | dict h1 h2 h3 h4 h5 => simp [PyData.canLay0] at hcl
theorem cal_repr : CalD X (rRepr X.K) fRepr := by
  intro H φ st Q vs ds dz st' rs hv hf q
  unfold fRepr at hf
  split at hf
  · rename_i d
    cases e : dat st 64 d with
    | none => rw [e] at hf; cases hf
    | some p =>
      rw [e] at hf
      replace hf : (if p.canLay0 = true ∧ p.showable = true ∧ p.shown.length ≤ sizeLine then some (D.str p.shown, st) else none) = some (dz, st') := hf
      split at hf
      · rename_i c
        cases hf
        obtain ⟨v, rfl, h⟩ := hv.one
        obtain ⟨a1, a2⟩ := dat_dp rs 64 d v p h e
        exact ⟨v, p, rfl, a1, a2, c.1, c.2.1, c.2.2, q _ φ H .refl rs .str⟩
      · cases hf
  · cases hf
end
end M2
set_option Elab.async false
set_option linter.all false
set_option maxRecDepth 100000
set_option maxHeartbeats 2000000
namespace M2
open PySem PySem.Spec PyProof.Rows L2

abbrev DW (X : Cx) (E : XK) (e : Expr) (m : MM Bool) : Prop := PW X e (tTM X.K E m)
theorem pw_imp {X : Cx} {e : Expr} {t t' : TT} (h : PW X e t) (f : ∀ σ H Q, t' σ H Q → t σ H Q) : PW X e t' := ⟨fun wh pins s σ H Q I w => h.run wh pins s σ H Q I (f σ H Q w)⟩

/-! ### tests, and, or, not, a chain, a if c else b -/
def boolD : D → Option Bool
  | .bl b => some b
  | _ => none
def mB (m : MM D) : MM Bool := bnd m fun d => lft (boolD d)
def truD (d : D) (st : Sto) : Option Bool := match d with
  | .non => some false
  | .bl b => some b
  | .int i => some (i != 0)
  | .tup ds => some (!ds.isEmpty)
  | .mu l => (st[l]?).map fun ds => !ds.isEmpty
  | .scr ns => some (!ns.isEmpty)
  | _ => none
def mTru (m : MM D) : MM Bool := bnd m fun d => asg fun _ st => truD d st
def mAnd (a b : MM Bool) : MM Bool := bnd a fun c => if c = true then b else ret false
def mOr (a b : MM Bool) : MM Bool := bnd a fun c => if c = true then ret true else b
def mNot (a : MM Bool) : MM Bool := bnd a fun c => ret (!c)
def mAndV (a b : MM D) : MM D := bnd a fun d => bnd (lft (boolD d)) fun c => if c = true then b else ret (.bl false)
def mOrV (a b : MM D) : MM D := bnd a fun d => bnd (lft (boolD d)) fun c => if c = true then ret (.bl true) else b
def mNotV (a : MM D) : MM D := bnd a fun d => bnd (lft (boolD d)) fun c => ret (.bl (!c))
def mIf (c : MM Bool) (a b : MM D) : MM D := bnd c fun k => if k = true then a else b
def mChain (f g : FD2) (a b c : MM D) : MM D := bnd a fun x => bnd b fun y => bnd (stm (f x y)) fun d => bnd (lft (boolD d)) fun k => if k = true then bnd c fun z => stm (g y z) else ret (.bl false)
section
variable {X : Cx} {E : XK} {pos : Pos} {a b c e : Expr} {rest : List Expr} {ma mb mc : MM D} {ta tb tc : MM Bool} {op op' : CmpOp} {r r' : R2} {f g : FD2}
theorem boolD_some {d : D} {b : Bool} (h : boolD d = some b) : d = .bl b := by
  cases d <;> first | (cases h; rfl) | cases h
theorem mB_tM {σ : L2.St} {H : Hp} {Q : Bool → Hp → Prop} (h : tTM X.K E (mB ma) σ H Q) : tM X.K E ma σ H fun x H' => ∃ k, x = .bl k ∧ Q k H' := by
  obtain ⟨en, st, φ, g⟩ := h
  refine ⟨en, st, φ, g.bind.imp fun st1 d φ1 H1 _ _ ⟨k1, r1, g1⟩ v hv => ?_⟩
  obtain ⟨k, e, q⟩ := g1.lft
  rw [boolD_some e] at hv
  cases hv
  exact ⟨k, rfl, q⟩
theorem dt_cmp (ho : OpR X (compareOp op) r) (hf : OpD X r f) (ha : DE X E a ma) (hb : DE X E b mb) (hm : behindInMarks op b = false) : DT X E (.Compare a [op] [b] pos) (mB (mOp f ma mb)) :=
  pt_imp (pt_cmpR ho ha hb hm) fun σ H Q h => op_bnd hf (mB_tM h)
theorem chain_bnd {σ : L2.St} {H : Hp} {Q : VK} (hf : OpD X r f) (hg : OpD X r' g) (h : tM X.K E (mChain f g ma mb mc) σ H Q) : tChain r r' (tM X.K E ma) (tM X.K E mb) (tM X.K E mc) σ H Q := by
  obtain ⟨en, st, φ, g0⟩ := h
  refine ⟨en, st, φ, g0.bind.imp fun st1 d1 φ1 H1 _ _ ⟨k1, r1, g1⟩ x vx => ⟨en, st1, φ1, g1.bind.imp fun st2 d2 φ2 H2 _ _ ⟨k2, r2, g2⟩ y vy => ?_⟩⟩
  obtain ⟨dz, st', hz, q⟩ := g2.bind.stm
  refine hf H2 φ2 st2 _ x y d1 d2 dz st' r2 (vx.mono k2) vy hz fun z φ3 H3 kx3 rs3 vz => ?_
  obtain ⟨k3, r3, g3⟩ := q φ3 H3 kx3 rs3
  obtain ⟨k, e, k4, r4, g4⟩ := g3.bind.lft
  rw [boolD_some e] at vz
  cases vz
  refine ⟨k, rfl, ?_⟩
  cases k with
  | false =>
    rw [if_neg Bool.false_ne_true] at g4 ⊢
    exact g4.ret _ .bl
  | true =>
    rw [if_pos rfl] at g4 ⊢
    refine ⟨en, st', φ3, g4.bind.imp fun st5 d5 φ5 H5 _ _ ⟨k5, r5, g5⟩ w vw => ?_⟩
    obtain ⟨dw, st6, hw, q6⟩ := g5.stm
    exact hg H5 φ5 st5 Q y w d2 d5 dw st6 r5 ((vy.mono k3).mono k5) vw hw fun v φ' H' kx rs' vd => q6 φ' H' kx rs' v vd
theorem de_chain (ho : OpR X (compareOp op) r) (ho' : OpR X (compareOp op') r') (hf : OpD X r f) (hg : OpD X r' g) (ha : DE X E a ma) (hb : DE X E b mb) (hc : DE X E c mc) (hm : lastMarks [op, op'] [b, c] = false) :
    DE X E (.Compare a [op, op'] [b, c] pos) (mChain f g ma mb mc) := pe_imp (pe_chain ho ho' ha hb hc hm) fun σ H Q h => chain_bnd hf hg h
theorem dt_chain (ho : OpR X (compareOp op) r) (ho' : OpR X (compareOp op') r') (hf : OpD X r f) (hg : OpD X r' g) (ha : DE X E a ma) (hb : DE X E b mb) (hc : DE X E c mc) (hm : lastMarks [op, op'] [b, c] = false) :
    DT X E (.Compare a [op, op'] [b, c] pos) (mB (mChain f g ma mb mc)) := pt_imp (pt_chain ho ho' ha hb hc hm) fun σ H Q h => chain_bnd hf hg (mB_tM h)
theorem truD_ok {H : Hp} {φ : List Addr} {st : Sto} {v : V} {d : D} {k : Bool} (K : PySem.W.Frag) (rs : RS K H φ st) (h : VD K H φ v d) (e : truD d st = some k) : TruV K v H k := by
  cases h with
  | non => cases e; rfl
  | bl => cases e; rfl
  | int => cases e; rfl
  | str => cases e
  | @tup a vs ds h1 h2 =>
    cases e
    refine .inr (.inl ⟨vs, h1, ?_⟩)
    cases h2 <;> rfl
  | @mu l a h1 =>
    cases e2 : st[l]? with
    | none => unfold truD at e; simp only [e2] at e; cases e
    | some ds =>
      unfold truD at e; simp only [e2] at e; cases e
      obtain ⟨ws, g1, g2⟩ := rs.get l a ds h1 e2
      refine .inl ⟨ws, .of g1, ?_⟩
      cases g2 <;> rfl
  | @scr a ns h1 =>
    cases e
    refine .inl ⟨_, h1.sql, ?_⟩
    cases ns <;> rfl
  | ty => cases e
  | cls => cases e
theorem dt_tru (ha : DE X E a ma) (he : ∀ whole, isTrue a X.env whole = (do let v ← whole; standAt a.pos; holding [v] (truthy v))) : DT X E a (mTru ma) :=
  pt_imp (pt_truth ha he) fun σ H Q ⟨en, st, φ, g⟩ => ⟨en, st, φ, g.bind.imp fun st1 d φ1 H1 _ _ ⟨k1, r1, g1⟩ v hv => by
    obtain ⟨k, e, q⟩ := g1.asg
    exact ⟨k, truD_ok X.K r1 hv e, q⟩⟩
theorem dt_not (ha : DT X E a ta) : DT X E (.UnaryOp .Not a pos) (mNot ta) :=
  pt_imp (pt_not ha) fun σ H Q ⟨en, st, φ, g⟩ => ⟨en, st, φ, g.bind.imp fun st1 c φ1 H1 _ _ ⟨k1, r1, g1⟩ => g1.ret⟩
theorem dw_and1 (ha : DT X E a ta) : DW X E (.BoolOp .And [a] pos) ta := pw_and1 ha
theorem dw_or1 (ha : DT X E a ta) : DW X E (.BoolOp .Or [a] pos) ta := pw_or1 ha
theorem dw_and (ha : DT X E a ta) (hb : DW X E (.BoolOp .And (b :: rest) pos) tb) : DW X E (.BoolOp .And (a :: b :: rest) pos) (mAnd ta tb) :=
  pw_imp (pw_and ha hb) fun σ H Q ⟨en, st, φ, g⟩ => ⟨en, st, φ, g.bind.imp fun st1 c φ1 H1 _ _ ⟨k1, r1, g1⟩ => by
    cases c with
    | true => rw [if_pos rfl] at g1 ⊢; exact ⟨en, st1, φ1, g1⟩
    | false => rw [if_neg Bool.false_ne_true] at g1 ⊢; exact g1.ret⟩
theorem dw_or (ha : DT X E a ta) (hb : DW X E (.BoolOp .Or (b :: rest) pos) tb) : DW X E (.BoolOp .Or (a :: b :: rest) pos) (mOr ta tb) :=
  pw_imp (pw_or ha hb) fun σ H Q ⟨en, st, φ, g⟩ => ⟨en, st, φ, g.bind.imp fun st1 c φ1 H1 _ _ ⟨k1, r1, g1⟩ => by
    cases c with
    | true => rw [if_pos rfl] at g1 ⊢; exact g1.ret
    | false => rw [if_neg Bool.false_ne_true] at g1 ⊢; exact ⟨en, st1, φ1, g1⟩⟩
theorem de_one {o : BoolOp} (ha : DE X E a ma) : DE X E (.BoolOp o [a] pos) ma := pe_one ha
theorem de_and (ha : DE X E a ma) (hb : DE X E (.BoolOp .And (b :: rest) pos) mb) : DE X E (.BoolOp .And (a :: b :: rest) pos) (mAndV ma mb) :=
  pe_imp (pe_and ha hb) fun σ H Q ⟨en, st, φ, g⟩ => ⟨en, st, φ, g.bind.imp fun st1 d φ1 H1 _ _ ⟨k1, r1, g1⟩ v hv => by
    obtain ⟨c, e, k2, r2, g2⟩ := g1.bind.lft
    rw [boolD_some e] at hv
    cases hv
    refine ⟨c, rfl, ?_⟩
    cases c with
    | true => rw [if_pos rfl] at g2 ⊢; exact ⟨en, st1, φ1, g2⟩
    | false => rw [if_neg Bool.false_ne_true] at g2 ⊢; exact g2.ret _ .bl⟩
theorem de_or (ha : DE X E a ma) (hb : DE X E (.BoolOp .Or (b :: rest) pos) mb) : DE X E (.BoolOp .Or (a :: b :: rest) pos) (mOrV ma mb) :=
  pe_imp (pe_or ha hb) fun σ H Q ⟨en, st, φ, g⟩ => ⟨en, st, φ, g.bind.imp fun st1 d φ1 H1 _ _ ⟨k1, r1, g1⟩ v hv => by
    obtain ⟨c, e, k2, r2, g2⟩ := g1.bind.lft
    rw [boolD_some e] at hv
    cases hv
    refine ⟨c, rfl, ?_⟩
    cases c with
    | true => rw [if_pos rfl] at g2 ⊢; exact g2.ret _ .bl
    | false => rw [if_neg Bool.false_ne_true] at g2 ⊢; exact ⟨en, st1, φ1, g2⟩⟩
theorem de_not (ha : DE X E a ma) : DE X E (.UnaryOp .Not a pos) (mNotV ma) :=
  pe_imp (pe_not ha) fun σ H Q ⟨en, st, φ, g⟩ => ⟨en, st, φ, g.bind.imp fun st1 d φ1 H1 _ _ ⟨k1, r1, g1⟩ v hv => by
    obtain ⟨c, e, k2, r2, g2⟩ := g1.bind.lft
    rw [boolD_some e] at hv
    cases hv
    exact ⟨c, rfl, g2.ret _ .bl⟩⟩
theorem de_if (hc : DT X E c tc) (ha : DE X E a ma) (hb : DE X E b mb) : DE X E (.IfExp c a b pos) (mIf tc ma mb) :=
  pe_imp (pe_ifExp hc ha hb) fun σ H Q ⟨en, st, φ, g⟩ => ⟨en, st, φ, g.bind.imp fun st1 k φ1 H1 _ _ ⟨k1, r1, g1⟩ => by
    cases k with
    | true => rw [if_pos rfl] at g1 ⊢; exact ⟨en, st1, φ1, g1⟩
    | false => rw [if_neg Bool.false_ne_true] at g1 ⊢; exact ⟨en, st1, φ1, g1⟩⟩
/-- -a of an int -/
def mNeg (m : MM D) : MM D := bnd m fun d => lft (match d with | .int i => some (.int (-i)) | _ => none)
theorem de_neg (ha : DE X E a ma) : DE X E (.UnaryOp .USub a pos) (mNeg ma) :=
  pe_imp (pe_un un_neg ha) fun σ H Q ⟨en, st, φ, g⟩ => ⟨en, st, φ, g.bind.imp fun st1 d φ1 H1 _ _ ⟨k1, r1, g1⟩ v hv => by
    obtain ⟨z, e, q⟩ := g1.lft
    split at e
    · rename_i i _
      cases e; cases hv
      exact ⟨i, rfl, q _ .int⟩
    · cases e⟩
end

/-! ### a tuple, a list, slices -/
section
variable {X : Cx} {E : XK} {pos : Pos} {e : Expr} {es : List Expr} {ms : List (MM D)} {me : MM D}
theorem de_tup {x1 : Nat} (h : DA X E es (mArgs ms)) : DE X E (.Tuple es x1 pos) (mTup ms) :=
  pe_imp (pe_tup h) fun σ H Q ⟨en, st, φ, g⟩ => ⟨en, st, φ, g.bind.imp fun st1 ds φ1 H1 _ _ ⟨k1, r1, g1⟩ vs hv => by
    obtain ⟨z, e, q⟩ := g1.lft'
    split at e
    · rename_i hl
      cases e
      refine ⟨big (by rw [hv.length]; omega), fun p hp => ?_⟩
      obtain ⟨kx, rr⟩ := lay_tup (xs := vs) r1 hp
      exact q φ1 _ kx rr _ (.tup (.of upd_same) (hv.mono kx))
    · cases e⟩
theorem de_lst (h : DA X E es (mArgs ms)) : DE X E (.List es pos) (mLst ms) :=
  pe_imp (pe_lst h) fun σ H Q ⟨en, st, φ, g⟩ => ⟨en, st, φ, g.bind.imp fun st1 ds φ1 H1 _ _ ⟨k1, r1, g1⟩ vs hv => by
    obtain ⟨z, st2, e, q⟩ := g1.stm
    split at e
    · rename_i hl
      cases e
      refine ⟨big (by rw [hv.length]; omega), fun p hp => ?_⟩
      obtain ⟨kx, rr⟩ := lay_lst (xs := vs) r1 hp hv
      exact q _ _ kx rr _ (.mu (by rw [← r1.len, List.getElem?_append_right (Nat.le_refl _)]; simp))
    · cases e⟩
def cutD (xs : List D) (lo hi : Option Int) : List D := (xs.drop (HT.sIx xs.length 0 lo)).take (HT.sIx xs.length xs.length hi - HT.sIx xs.length 0 lo)
def partD : D → Option (Option Int)
  | .int i => some (some i)
  | .non => some none
  | _ => none
def mPart : Option (MM D) → MM (Option Int)
  | none => ret none
  | some m => bnd m fun d => lft (match d with | .int i => some (some i) | _ => none)
def tOM (K : PySem.W.Frag) (E : XK) (m : MM (Option Int)) : TO := fun σ H Q => ∃ en st φ, Gat K E m σ en st φ H fun _ o _ H' => Q o H'
abbrev DO (X : Cx) (E : XK) (e : Option Expr) (m : MM (Option Int)) : Prop := PO X e (tOM X.K E m)
theorem po_imp {X : Cx} {e : Option Expr} {t t' : TO} (h : PO X e t) (f : ∀ σ H Q, t' σ H Q → t σ H Q) : PO X e t' := ⟨fun pins s σ H Q I w => h.run pins s σ H Q I (f σ H Q w)⟩
theorem do_none : DO X E none (mPart none) := po_imp po_none fun σ H Q ⟨en, st, φ, g⟩ => g.ret
theorem do_some (h : DE X E e me) : DO X E (some e) (mPart (some me)) :=
  po_imp (po_some h) fun σ H Q ⟨en, st, φ, g⟩ => ⟨en, st, φ, g.bind.imp fun st1 d φ1 H1 _ _ ⟨k1, r1, g1⟩ v hv => by
    obtain ⟨z, e, q⟩ := g1.lft
    split at e
    · rename_i i _
      cases e; cases hv
      exact ⟨i, rfl, q⟩
    · cases e⟩
def fSl (d : D) (lo hi : Option Int) : Sto → Option (D × Sto) := fun st => match d with
  | .tup xs => some (.tup (cutD xs lo hi), st)
  | .mu l => (st[l]?).map fun xs => (.mu st.length, st ++ [cutD xs lo hi])
  | _ => none
def mSl (m : MM D) (lo hi : Option (MM D)) : MM D := bnd m fun d => bnd (mPart lo) fun l => bnd (mPart hi) fun h => stm (fSl d l h)
theorem VDs.cut {K : PySem.W.Frag} {H : Hp} {φ : List Addr} {vs : List V} {ds : List D} (h : VDs K H φ vs ds) (lo hi : Option Int) : VDs K H φ (cutV vs lo hi) (cutD ds lo hi) := by
  unfold cutV cutD
  rw [h.length]
  exact (h.drop _).take _
theorem cutD_all {xs : List D} {lo hi : Option Int} (h : HT.sIx xs.length 0 lo = 0 ∧ HT.sIx xs.length xs.length hi = xs.length) : cutD xs lo hi = xs := by
  unfold cutD
  rw [h.1, h.2]
  simp
theorem de_sl {lo hi : Option Expr} {ml mh : Option (MM D)} {p2 : Pos} (he : DE X E e me) (hl : DO X E lo (mPart ml)) (hh : DO X E hi (mPart mh)) : DE X E (.Subscript e (.Slice lo hi none p2) pos) (mSl me ml mh) :=
  pe_imp (pe_slice (sl_list.or sl_tupA) he hl hh) fun σ H Q ⟨en, st, φ, g⟩ => ⟨en, st, φ, g.bind.imp fun st1 d φ1 H1 _ _ ⟨k1, r1, g1⟩ v hv => ⟨en, st1, φ1, g1.bind.imp fun st2 l φ2 H2 _ _ ⟨k2, r2, g2⟩ =>
    ⟨en, st2, φ2, g2.bind.imp fun st3 h φ3 H3 _ _ ⟨k3, r3, g3⟩ => by
      obtain ⟨z, st4, e, q⟩ := g3.stm
      have hv3 := (hv.mono k2).mono k3
      unfold fSl at e
      split at e
      · rename_i xs
        cases e
        obtain ⟨a, ws, rfl, h1, h2⟩ := hv3.tupI
        refine .inr ⟨a, ws, rfl, h1, fun c => ?_, fun _ p hp => ?_⟩
        · rw [h2.length] at c
          rw [cutD_all c] at q
          exact q φ3 H3 .refl r3 _ (.tup h1 h2)
        · obtain ⟨kx, rr⟩ := lay_tup (xs := cutV ws l h) r3 hp
          exact q φ3 _ kx rr _ (.tup (.of upd_same) ((h2.cut l h).mono kx))
      · rename_i j _ _ _
        cases e2 : st3[j]? with
        | none => rw [e2] at e; cases e
        | some xs =>
          rw [e2] at e; cases e
          obtain ⟨a, rfl, ha⟩ := hv3.mutI
          obtain ⟨ws, g1', g2'⟩ := r3.get j a xs ha e2
          refine .inl ⟨a, ws, rfl, .of g1', fun p hp => ?_⟩
          obtain ⟨kx, rr⟩ := lay_lst (xs := cutV ws l h) r3 hp (g2'.cut l h)
          exact q _ _ kx rr _ (.mu (by rw [← r3.len, List.getElem?_append_right (Nat.le_refl _)]; simp))
      · cases e⟩⟩⟩
/-- xs[::-1], a list -/
def fRev (d : D) : Sto → Option (D × Sto) := fun st => match d with
  | .mu l => (st[l]?).map fun xs => (.mu st.length, st ++ [xs.reverse])
  | _ => none
def mRev (m : MM D) : MM D := bnd m fun d => stm (fRev d)
theorem de_rev {k : Nat} {p1 p2 p3 : Pos} (he : DE X E e me) : DE X E (.Subscript e (.Slice none none (some (.UnaryOp .USub (.Constant (.int 1) k p1) p2)) p3) pos) (mRev me) :=
  pe_imp (pe_revL he) fun σ H Q ⟨en, st, φ, g⟩ => ⟨en, st, φ, g.bind.imp fun st1 d φ1 H1 _ _ ⟨k1, r1, g1⟩ v hv => by
    obtain ⟨z, st2, e, q⟩ := g1.stm
    unfold fRev at e
    split at e
    · rename_i l _
      cases e2 : st1[l]? with
      | none => rw [e2] at e; cases e
      | some xs =>
        rw [e2] at e; cases e
        obtain ⟨a, rfl, ha⟩ := hv.mutI
        obtain ⟨ws, g1', g2'⟩ := r1.get l a xs ha e2
        refine ⟨a, ws, rfl, .of g1', fun p hp => ?_⟩
        obtain ⟨kx, rr⟩ := lay_lst (xs := ws.reverse) r1 hp g2'.rev
        exact q _ _ kx rr _ (.mu (by rw [← r1.len, List.getElem?_append_right (Nat.le_refl _)]; simp))
    · cases e⟩
end
end M2
set_option Elab.async false
set_option linter.all false
set_option maxRecDepth 100000
set_option maxHeartbeats 2000000
namespace M2
open PySem PySem.Spec PyProof.Rows L2
open Classical

/-! ### what is walked -/
structure IT where
  items : List D
  loc : Option Nat
def gOk (it : IT) (st : Sto) : Prop := ∀ l, it.loc = some l → st[l]? = some it.items
def ItR (K : PySem.W.Frag) (it : IT) (J : It) (φ0 : List Addr) (H0 : Hp) : Prop := ∀ φ H st, KX H0 φ0 H φ → RS K H φ st → gOk it st →
  (∀ i, i < it.items.length → J.go i H) ∧ J.stop it.items.length H ∧
  ∀ i x H', i < it.items.length → J.yld i H x H' → ∃ d, it.items[i]? = some d ∧ KX H φ H' φ ∧ RS K H' φ st ∧ VD K H' φ x d
def tIM (K : PySem.W.Frag) (E : XK) (m : MM IT) : TI := fun σ H R => ∃ en st φ, Gat K E m σ en st φ H fun _ it φ' H' => ∀ J, ItR K it J φ' H' → R J H'
abbrev DI (X : Cx) (E : XK) (tg iter : Expr) (m : MM IT) : Prop := PI X tg iter (tIM X.K E m)
def iterD (d : D) (st : Sto) : Option IT := match d with
  | .tup ds => some ⟨ds, none⟩
  | .mu l => (st[l]?).map fun ds => ⟨ds, some l⟩
  | .scr ns => some ⟨ns.map D.int, none⟩
  | _ => none
def mIter (m : MM D) : MM IT := bnd m fun d => asg fun _ st => iterD d st
def mRng1 (m : MM D) : MM IT := bnd m fun d => lft (match d with
  | .int j => if -(2 ^ 62) ≤ j ∧ j < 2 ^ 62 then some ⟨(List.range j.toNat).map fun (i : Nat) => D.int (i : Int), none⟩ else none
  | _ => none)
def numbered : Nat → List D → List D
  | _, [] => []
  | i, d :: ds => .tup [.int i, d] :: numbered (i + 1) ds
def mEnum (m : MM D) : MM IT := bnd m fun d => asg fun _ st => match d with
  | .tup ds => some ⟨numbered 0 ds, none⟩
  | _ => none
theorem numbered_len : ∀ (i : Nat) (ds : List D), (numbered i ds).length = ds.length
  | _, [] => rfl
  | i, d :: ds => by simp [numbered, numbered_len (i + 1) ds]
theorem numbered_get : ∀ (i j : Nat) (ds : List D), (numbered i ds)[j]? = (ds[j]?).map fun d => D.tup [.int ((i + j : Nat) : Int), d]
  | _, _, [] => by simp [numbered]
  | i, 0, d :: ds => by simp [numbered]
  | i, j + 1, d :: ds => by
    have := numbered_get (i + 1) j ds
    simp only [numbered, List.getElem?_cons_succ]
    rw [this, show i + 1 + j = i + (j + 1) by omega]
section
variable {X : Cx} {E : XK} {tg e : Expr} {es : List Expr} {me : MM D} {pos p : Pos}
theorem itr_tup {K : PySem.W.Frag} {a : Addr} {vs : List V} {ds : List D} {φ0 : List Addr} {H0 : Hp} (h : SqT K H0 a vs) (r : VDs K H0 φ0 vs ds) : ItR K ⟨ds, none⟩ (Itt K a) φ0 H0 := fun φ H st kx rs _ => by
  have h' := kx.sqT h
  have r' := r.mono kx
  have hl := r'.length
  refine ⟨fun i hi => ⟨vs, vs[i]'(by show i < vs.length; rw [hl]; exact hi), h', by simp⟩, ⟨vs, h', by show vs.length ≤ ds.length; omega⟩, fun i x H' hi ⟨e1, e2⟩ => ?_⟩
  subst e1
  have e3 := e2 vs h'
  have hi' : i < ds.length := hi
  obtain ⟨v, g1, g2⟩ := r'.get (List.getElem?_eq_getElem hi')
  rw [e3] at g1; cases g1
  exact ⟨_, List.getElem?_eq_getElem hi', .refl, rs, g2⟩
theorem itr_mu {K : PySem.W.Frag} {l : Nat} {a : Addr} {ds : List D} {φ0 : List Addr} {H0 : Hp} (h : φ0[l]? = some a) : ItR K ⟨ds, some l⟩ (Itl K a) φ0 H0 := fun φ H st kx rs hg => by
  obtain ⟨vs, g1, r'⟩ := rs.get l a ds (kx.at h) (hg l rfl)
  have h' : SqL K H a vs := .of g1
  have hl := r'.length
  refine ⟨fun i hi => ⟨vs, vs[i]'(by show i < vs.length; rw [hl]; exact hi), h', by simp⟩, ⟨vs, h', by show vs.length ≤ ds.length; omega⟩, fun i x H' hi ⟨e1, e2⟩ => ?_⟩
  subst e1
  have e3 := e2 vs h'
  have hi' : i < ds.length := hi
  obtain ⟨v, g1', g2⟩ := r'.get (List.getElem?_eq_getElem hi')
  rw [e3] at g1'; cases g1'
  exact ⟨_, List.getElem?_eq_getElem hi', .refl, rs, g2⟩
theorem itr_scr {K : PySem.W.Frag} {a : Addr} {ns : List Int} {φ0 : List Addr} {H0 : Hp} (h : SqR K H0 a (ns.map V.int)) : ItR K ⟨ns.map D.int, none⟩ (Itl K a) φ0 H0 := fun φ H st kx rs _ => by
  have h' : SqL K H a (ns.map V.int) := (kx.sqR h).sql
  refine ⟨fun i hi => ⟨_, (ns.map V.int)[i]'(by simpa using hi), h', by simp⟩, ⟨_, h', by simp⟩, fun i x H' hi ⟨e1, e2⟩ => ?_⟩
  subst e1
  have e3 := e2 _ h'
  have hi' : i < ns.length := by simpa using hi
  rw [List.getElem?_map, List.getElem?_eq_getElem hi'] at e3
  cases e3
  exact ⟨.int ns[i], by show (ns.map D.int)[i]? = _; rw [List.getElem?_map, List.getElem?_eq_getElem hi']; rfl, .refl, rs, .int⟩
theorem itr_rng {K : PySem.W.Frag} {n : Nat} {φ0 : List Addr} {H0 : Hp} : ItR K ⟨(List.range n).map fun (i : Nat) => D.int (i : Int), none⟩ (Itr 0 n) φ0 H0 := fun φ H st kx rs _ => by
  refine ⟨fun i hi => by show i < n; simpa using hi, by show n ≤ ((List.range n).map _).length; simp, fun i x H' hi ⟨e1, e2⟩ => ?_⟩
  subst e1 e2
  have hi' : i < n := by simpa using hi
  exact ⟨.int i, by show ((List.range n).map fun (i : Nat) => D.int (i : Int))[i]? = _; rw [List.getElem?_map, List.getElem?_range hi']; rfl, .refl, rs, by rw [Int.zero_add]; exact .int⟩
theorem di_seq (he : DE X E e me) : DI X E tg e (mIter me) := by
  refine ⟨fun pins s σ H R I ⟨en, st, φ, g⟩ => ?_⟩
  obtain ⟨re, rs, r, st', em, q⟩ := g.bind
  cases r with
  | error c => exact (pi_tup he).run pins s σ H R I ⟨en, st, φ, re, rs, .error c, st', em, q⟩
  | ok d =>
    cases hd : iterD d st' with
    | none =>
      refine (pi_tup he).run pins s σ H R I ⟨en, st, φ, re, rs, .ok d, st', em, fun φ' H' kx rs' v hv => ?_⟩
      obtain ⟨_, _, g1⟩ := q φ' H' kx rs'
      obtain ⟨z, e1, _⟩ := g1.asg
      rw [hd] at e1; cases e1
    | some it =>
      cases d with
      | tup ds =>
        refine (pi_tup he).run pins s σ H R I ⟨en, st, φ, re, rs, .ok (.tup ds), st', em, fun φ' H' kx rs' v hv => ?_⟩
        obtain ⟨_, _, g1⟩ := q φ' H' kx rs'
        obtain ⟨z, e1, q1⟩ := g1.asg
        cases e1
        obtain ⟨a, vs, rfl, h1, h2⟩ := hv.tupI
        exact ⟨a, rfl, ⟨vs, h1⟩, q1 _ (itr_tup h1 h2)⟩
      | mu l =>
        refine (pi_list he).run pins s σ H R I ⟨en, st, φ, re, rs, .ok (.mu l), st', em, fun φ' H' kx rs' v hv => ?_⟩
        obtain ⟨_, _, g1⟩ := q φ' H' kx rs'
        obtain ⟨z, e1, q1⟩ := g1.asg
        obtain ⟨a, rfl, ha⟩ := hv.mutI
        cases e2 : st'[l]? with
        | none => unfold iterD at e1; simp only [e2] at e1; cases e1
        | some ds =>
          unfold iterD at e1; simp only [e2] at e1; cases e1
          obtain ⟨vs, g2, _⟩ := rs'.get l a ds ha e2
          exact ⟨a, rfl, ⟨vs, .of g2⟩, q1 _ (itr_mu ha)⟩
      | scr ns =>
        refine (pi_list he).run pins s σ H R I ⟨en, st, φ, re, rs, .ok (.scr ns), st', em, fun φ' H' kx rs' v hv => ?_⟩
        obtain ⟨_, _, g1⟩ := q φ' H' kx rs'
        obtain ⟨z, e1, q1⟩ := g1.asg
        cases e1
        cases hv with
        | scr h1 => exact ⟨_, rfl, ⟨_, h1.sql⟩, q1 _ (itr_scr h1)⟩
      | non => cases hd
      | bl => cases hd
      | int => cases hd
      | str => cases hd
      | ty => cases hd
      | cls => cases hd
theorem pi_imp {t t' : TI} (h : PI X tg e t) (f : ∀ σ H Q, t' σ H Q → t σ H Q) : PI X tg e t' := ⟨fun pins s σ H Q I w => h.run pins s σ H Q I (f σ H Q w)⟩
theorem di_rng1 {a : Expr} (hg : Gl X "range") (hm : X.mg "range" = none) (ha : DA X E [a] (mArgs [me])) (hs : starEach [a] X.env = [(false, eval a X.env)]) : DI X E tg (.Call (.Name "range" p) [a] [] pos) (mRng1 me) :=
  pi_imp (pi_range1 hg hm ha hs) fun σ H R ⟨en, st, φ, g⟩ => by
    refine ⟨en, st, φ, ?_⟩
    obtain ⟨re, rs, r, st', em, q⟩ := g.bind
    refine ⟨re, rs, r.map (fun d => [d]), st', ?_, fun φ' H' kx rs' => ?_⟩
    · show bnd me (fun d => bnd (ret []) fun ds => ret (d :: ds)) en st = _
      unfold bnd
      rw [em]
      cases r <;> rfl
    · have z := q φ' H' kx rs'
      cases r with
      | error c => exact z
      | ok d =>
        intro vs hv
        obtain ⟨v, rfl, h⟩ := hv.one
        obtain ⟨_, _, g1⟩ := z
        obtain ⟨it, e1, q1⟩ := g1.lft
        split at e1
        · rename_i j
          split at e1
          · rename_i c
            cases e1; cases h
            exact ⟨j, rfl, c.1, c.2, q1 _ itr_rng⟩
          · cases e1
        · cases e1
end

/-! ### targets -/
abbrev SetE := D → En → Option En
def tGM (K : PySem.W.Frag) (is : List Nat) (f : SetE) : TG := fun v σ H R => ∃ en φ d en', RE K H φ σ en ∧ VD K H φ v d ∧ f d en = some en' ∧ ∀ σ', RE K H φ σ' en' → (∀ vs, (∀ i ∈ is, i ∈ vs) → wipe σ' vs = wipe σ vs) → R σ' H
def tGsM (K : PySem.W.Frag) (is : List Nat) (f : List D → En → Option En) : TGs := fun ws σ H R => ∃ en φ ds en', RE K H φ σ en ∧ VDs K H φ ws ds ∧ f ds en = some en' ∧ ∀ σ', RE K H φ σ' en' → (∀ vs, (∀ i ∈ is, i ∈ vs) → wipe σ' vs = wipe σ vs) → R σ' H
abbrev DG (X : Cx) (tg : Expr) (is : List Nat) (f : SetE) : Prop := PG X tg (tGM X.K is f)
abbrev DGs (X : Cx) (tgs : List Expr) (is : List Nat) (f : List D → En → Option En) : Prop := PGs X tgs (tGsM X.K is f)
theorem pg_imp {X : Cx} {tg : Expr} {t t' : TG} (h : PG X tg t) (f : ∀ v σ H R, t' v σ H R → t v σ H R) : PG X tg t' := ⟨fun pins s σ H v u Q I r w => h.run pins s σ H v u Q I r (f v σ H Q w)⟩
theorem pgs_imp {X : Cx} {tg : List Expr} {t t' : TGs} (h : PGs X tg t) (f : ∀ v σ H R, t' v σ H R → t v σ H R) : PGs X tg t' := ⟨fun pins s σ H v u Q I r w => h.run pins s σ H v u Q I r (f v σ H Q w)⟩
theorem wipe_get {σ : L2.St} {i : Nat} : ∀ {vs : List Nat}, (wipe σ vs)[i]? = if i ∈ vs then (σ[i]?).map fun _ => none else σ[i]?
  | [] => by simp [wipe]
  | v :: vs => by
    unfold wipe
    by_cases e : v = i
    · subst e
      rw [if_pos List.mem_cons_self]
      by_cases hl : v < σ.length
      · rw [List.getElem?_set_self (by rw [wipe_length]; exact hl), List.getElem?_eq_getElem hl]; rfl
      · rw [List.getElem?_eq_none (by rw [List.length_set, wipe_length]; omega), List.getElem?_eq_none (by omega : σ.length ≤ v)]; rfl
    · rw [List.getElem?_set_ne e, wipe_get (vs := vs)]
      by_cases h : i ∈ vs
      · rw [if_pos h, if_pos (List.mem_cons_of_mem _ h)]
      · rw [if_neg h, if_neg (fun z => (List.mem_cons.mp z).elim (fun q => e q.symm) h)]
theorem wipe_set {σ : L2.St} {i : Nat} {x : Option V} {vs : List Nat} (h : i ∈ vs) : wipe (σ.set i x) vs = wipe σ vs := by
  apply List.ext_getElem?
  intro j
  rw [wipe_get, wipe_get]
  by_cases e : i = j
  · subst e
    rw [if_pos h, if_pos h]
    by_cases hl : i < σ.length
    · rw [List.getElem?_set_self hl, List.getElem?_eq_getElem hl]; rfl
    · rw [List.getElem?_eq_none (by rw [List.length_set]; omega : (σ.set i x).length ≤ i), List.getElem?_eq_none (by omega : σ.length ≤ i)]
  · rw [List.getElem?_set_ne e]
def setN (i : Nat) : SetE := fun d en => if i < en.length then some (en.set i (some d)) else none
def setT (fs : List SetE) : List D → En → Option En := fun ds en => match fs, ds with
  | [], [] => some en
  | f :: fs, d :: ds => (f d en).bind fun en' => setT fs ds en'
  | _, _ => none
def setTup (n : Nat) (fs : List SetE) : SetE := fun d en => match d with
  | .tup ds => if ds.length = n then setT fs ds en else none
  | _ => none
theorem RE.set {K : PySem.W.Frag} {H : Hp} {φ : List Addr} {σ : L2.St} {en : En} {i : Nat} {v : V} {d : D} (re : RE K H φ σ en) (hv : VD K H φ v d) : RE K H φ (σ.set i (some v)) (en.set i (some d)) := by
  refine ⟨by simp [re.len], fun j e h => ?_⟩
  by_cases hj : i = j
  · subst hj
    by_cases hl : i < en.length
    · rw [List.getElem?_set_self hl] at h
      cases h
      exact ⟨v, List.getElem?_set_self (by rw [re.len]; exact hl), hv⟩
    · rw [List.getElem?_eq_none (by simpa using hl)] at h; cases h
  · rw [List.getElem?_set_ne hj] at h
    rw [List.getElem?_set_ne hj]
    exact re.get j e h
section
variable {X : Cx} {pos : Pos}
theorem dg_name {i : Nat} {x : Str} (hN : X.N.Nodup) (hi : X.N[i]? = some x) (hx : Loc X.env.scope x) (hf : X.fn x = true ∨ X.env.scope.names.lookup x = some .local) : DG X (.Name x pos) [i] (setN i) :=
  pg_imp (pg_name hN hi hx hf) fun v σ H R ⟨en, φ, d, en', re, hv, hs, q⟩ => by
    unfold setN at hs
    split at hs
    · cases hs
      exact q _ (re.set hv) fun vs hvs => wipe_set (hvs i List.mem_cons_self)
    · cases hs
theorem dgs_nil : DGs X [] [] (setT []) :=
  pgs_imp pgs_nil fun ws σ H R ⟨en, φ, ds, en', re, hv, hs, q⟩ => by
    cases ds with
    | nil =>
      unfold setT at hs
      cases hs
      exact ⟨hv.nilI, q σ re fun _ _ => rfl⟩
    | cons d ds => unfold setT at hs; cases hs
theorem dgs_cons {e : Expr} {es : List Expr} {is js : List Nat} {f : SetE} {fs : List SetE} (h1 : DG X e is f) (h2 : DGs X es js (setT fs))
    (h : (assignEach (e :: es) X.env).map (·.2) = assign e X.env :: (assignEach es X.env).map (·.2) := by rfl) : DGs X (e :: es) (is ++ js) (setT (f :: fs)) :=
  pgs_imp (pgs_cons h1 h2 h) fun ws σ H R ⟨en, φ, ds, en', re, hv, hs, q⟩ => by
    cases hv with
    | nil => unfold setT at hs; cases hs
    | @cons v vs d ds a b =>
      unfold setT at hs
      cases h3 : f d en with
      | none => rw [h3] at hs; cases hs
      | some en1 =>
        rw [h3] at hs
        refine ⟨v, vs, rfl, en, φ, d, en1, re, a, h3, fun σ1 re1 w1 => ⟨en1, φ, ds, en', re1, b, hs, fun σ2 re2 w2 => q σ2 re2 fun us hus => ?_⟩⟩
        rw [w2 us (fun i hi => hus i (List.mem_append_right _ hi)), w1 us (fun i hi => hus i (List.mem_append_left _ hi))]
theorem dg_tup {es : List Expr} {k : Nat} {is : List Nat} {fs : List SetE} {n : Nat} (hc : X.calm = true) (h : DGs X es is (setT fs)) (hn : (assignEach es X.env).length = n) (hst : (assignEach es X.env).findIdx? (·.1) = none) : DG X (.Tuple es k pos) is (setTup n fs) :=
  pg_imp (pg_tup hc h hn hst) fun v σ H R ⟨en, φ, d, en', re, hv, hs, q⟩ => by
    unfold setTup at hs
    split at hs
    · rename_i ds
      split at hs
      · rename_i hl
        obtain ⟨a, ws, rfl, h1, h2⟩ := hv.tupI
        exact ⟨a, ws, rfl, h1, by rw [h2.length]; exact hl, en, φ, ds, en', re, h2, hs, q⟩
      · cases hs
    · cases hs
end

/-! ### a comprehension -/
def wipeE (en : En) (vs : List Nat) : En := vs.foldr (fun v e => e.set v none) en
noncomputable def cLoop (it : IT) (l0 : Nat) (set : SetE) (test : MM Bool) (elt : MM D) (en : En) : List D → Sto → Option Sto
  | [], st => if gOk it st then some st else none
  | d :: r, st => if gOk it st then
      match set d en with
      | none => none
      | some en1 => match test en1 st with
        | some (.ok true, st1) => match elt en1 st1 with
          | some (.ok v, st2) => match st2[l0]? with
            | some acc => if acc.length < 100000 then cLoop it l0 set test elt en r (st2.set l0 (acc ++ [v])) else none
            | none => none
          | _ => none
        | some (.ok false, st1) => cLoop it l0 set test elt en r st1
        | _ => none
    else none
noncomputable def mLc (mi : MM IT) (vs : List Nat) (set : SetE) (test : MM Bool) (elt : MM D) : MM D := bnd mi fun it => fun en st =>
  (cLoop it st.length set test elt (wipeE en vs) it.items (st ++ [[]])).map fun st' => (.ok (.mu st.length), st')
theorem wipeE_get {en : En} {i : Nat} : ∀ {vs : List Nat} {d : D}, (wipeE en vs)[i]? = some (some d) → en[i]? = some (some d) ∧ i ∉ vs
  | [], d, h => ⟨h, by simp⟩
  | v :: vs, d, h => by
    have h : ((wipeE en vs).set v none)[i]? = some (some d) := h
    by_cases e : v = i
    · subst e
      by_cases hl : v < (wipeE en vs).length
      · rw [List.getElem?_set_self hl] at h; cases h
      · rw [List.getElem?_eq_none (by simpa using hl)] at h; cases h
    · rw [List.getElem?_set_ne e] at h
      obtain ⟨h1, h2⟩ := wipeE_get h
      exact ⟨h1, fun z => (List.mem_cons.mp z).elim (fun q => e q.symm) h2⟩
theorem wipeE_len {en : En} : ∀ (vs : List Nat), (wipeE en vs).length = en.length
  | [] => rfl
  | v :: vs => by
    show ((wipeE en vs).set v none).length = _
    rw [List.length_set, wipeE_len vs]
theorem RE.wipe {K : PySem.W.Frag} {H : Hp} {φ : List Addr} {σ : L2.St} {en : En} (re : RE K H φ σ en) (vs : List Nat) : RE K H φ (wipe σ vs) (wipeE en vs) := by
  refine ⟨by rw [wipe_length, wipeE_len]; exact re.len, fun i d h => ?_⟩
  obtain ⟨h1, h2⟩ := wipeE_get h
  obtain ⟨v, e1, e2⟩ := re.get i d h1
  exact ⟨v, by rw [wipe_get, if_neg h2]; exact e1, e2⟩
abbrev DTs (X : Cx) (E : XK) (es : List Expr) (m : MM Bool) : Prop := PTs X es (tTM X.K E m)
theorem pts_imp {X : Cx} {e : List Expr} {t t' : TT} (h : PTs X e t) (f : ∀ σ H Q, t' σ H Q → t σ H Q) : PTs X e t' := ⟨fun pins s σ H Q I w => h.run pins s σ H Q I (f σ H Q w)⟩
theorem dts_nil {X : Cx} {E : XK} : DTs X E [] (ret true) := pts_imp pts_nil fun σ H Q ⟨en, st, φ, g⟩ => g.ret
theorem dts_one {X : Cx} {E : XK} {c : Expr} {m : MM Bool} (h : DT X E c m) : DTs X E [c] m := pts_one h
theorem lc_bnd {K : PySem.W.Frag} {E : XK} {mi : MM IT} {vs is : List Nat} {set : SetE} {test : MM Bool} {elt : MM D} {σ : L2.St} {H : Hp} {Q : VK} (his : ∀ i ∈ is, i ∈ vs) (h : tM K E (mLc mi vs set test elt) σ H Q) :
    tLc (tIM K E mi) (tGM K is set) (tTM K E0 test) (tM K E0 elt) vs σ H Q := by
  obtain ⟨en, st, φ, g⟩ := h
  refine ⟨en, st, φ, g.bind.imp fun st1 it φ1 H1 _ _ ⟨k1, r1, g1⟩ J hJ Dd hD => ?_⟩
  obtain ⟨re, rs, rr, st', em, q⟩ := g1
  replace em : (cLoop it st1.length set test elt (wipeE en vs) it.items (st1 ++ [[]])).map (fun st' => ((.ok (.mu st1.length) : Except Addr D), st')) = some (rr, st') := em
  cases hc : cLoop it st1.length set test elt (wipeE en vs) it.items (st1 ++ [[]]) with
  | none => rw [hc] at em; cases em
  | some stE =>
    rw [hc] at em
    cases em
    obtain ⟨kx0, rs0⟩ := lay_lst (xs := []) (ds := []) rs hD .nil
    have hat0 : (φ1 ++ [Dd])[st1.length]? = some Dd := by rw [← rs.len, List.getElem?_append_right (Nat.le_refl _)]; simp
    refine ⟨fun i m H => m = it.items.length - i ∧ i ≤ it.items.length ∧ ∃ φ2 st2, KX (upd H1 Dd (.lst [])) (φ1 ++ [Dd]) H φ2 ∧ RS K H φ2 st2 ∧ cLoop it st1.length set test elt (wipeE en vs) (it.items.drop i) st2 = some st', ⟨_, rfl, Nat.zero_le _, φ1 ++ [Dd], _, .refl, rs0, hc⟩, ?_⟩
    rintro i m H2 ⟨rfl, hi, φ2, st2, kx2, rs2, hl⟩
    have kx02 := kx0.trans kx2
    by_cases hlt : i < it.items.length
    · rw [List.drop_eq_getElem_cons hlt] at hl
      unfold cLoop at hl
      split at hl
      · rename_i hg
        obtain ⟨j1, j2, j3⟩ := hJ φ2 H2 st2 kx02 rs2 hg
        refine .inr ⟨j1 i hlt, fun H => (i + 1) ≤ it.items.length ∧ ∃ φ2 st2, KX (upd H1 Dd (.lst [])) (φ1 ++ [Dd]) H φ2 ∧ RS K H φ2 st2 ∧ cLoop it st1.length set test elt (wipeE en vs) (it.items.drop (i + 1)) st2 = some st', fun H' ⟨p1, φ', stX, p2, p3, p4⟩ => ⟨_, by omega, rfl, p1, φ', stX, p2, p3, p4⟩, fun x H3 hy => ?_⟩
        obtain ⟨d, e1, kx3, rs3, vx⟩ := j3 i x H3 hlt hy
        rw [List.getElem?_eq_getElem hlt] at e1
        cases e1
        cases hset : set it.items[i] (wipeE en vs) with
        | none => rw [hset] at hl; cases hl
        | some en1 =>
          rw [hset] at hl
          have kx03 := kx02.trans kx3
          refine ⟨wipeE en vs, φ2, it.items[i], en1, (re.mono kx03).wipe vs, vx, hset, fun σ2 re2 w2 => ⟨?_, ?_⟩⟩
          · have z := w2 vs his
            rw [z]
            apply List.ext_getElem?
            intro j
            rw [wipe_get, wipe_get]
            by_cases hj : j ∈ vs
            · rw [if_pos hj, if_pos hj]
              cases σ[j]? <;> rfl
            · rw [if_neg hj, if_neg hj]
          · cases ht : test en1 st2 with
            | none => simp only [ht] at hl; cases hl
            | some p =>
              obtain ⟨rt, st3⟩ := p
              cases rt with
              | error c => simp only [ht] at hl; cases hl
              | ok b =>
                refine ⟨en1, st2, φ2, re2, rs3, .ok b, st3, ht, fun φ4 H4 kx4 rs4 => ?_⟩
                show if b = true then _ else _
                cases b with
                | false =>
                  rw [if_neg Bool.false_ne_true]
                  simp only [ht] at hl
                  exact ⟨hlt, φ4, st3, (kx2.trans kx3).trans kx4, rs4, hl⟩
                | true =>
                  rw [if_pos rfl]
                  simp only [ht] at hl
                  cases he : elt en1 st3 with
                  | none => simp only [he] at hl; cases hl
                  | some p =>
                    obtain ⟨rv, st4⟩ := p
                    cases rv with
                    | error c => simp only [he] at hl; cases hl
                    | ok v =>
                      simp only [he] at hl
                      cases ha : st4[st1.length]? with
                      | none => simp only [ha] at hl; cases hl
                      | some acc =>
                        simp only [ha] at hl
                        split at hl
                        · rename_i hlen
                          refine ⟨en1, st3, φ4, re2.mono kx4, rs4, .ok v, st4, he, fun φ5 H5 kx5 rs5 y vy => ?_⟩
                          have kx25 := (((kx2.trans kx3).trans kx4).trans kx5)
                          have hat := kx25.at hat0
                          obtain ⟨ws, g1, g2⟩ := rs5.get _ _ _ hat ha
                          obtain ⟨kx6, rs6⟩ := put_lst (xs := ws ++ [y]) (ds := acc ++ [v]) rs5 hat (g2.app (.cons vy .nil))
                          exact ⟨ws, g1, Evl.sz_lt (by rw [g2.length]; exact hlen), hlt, φ5, _, kx25.trans kx6, rs6, hl⟩
                        · cases hl
      · cases hl
    · have e : i = it.items.length := by omega
      subst e
      rw [List.drop_length] at hl
      unfold cLoop at hl
      split at hl
      · rename_i hg
        obtain ⟨j1, j2, j3⟩ := hJ φ2 H2 st2 kx02 rs2 hg
        cases hl
        exact .inl ⟨j2, q φ2 H2 kx02 rs2 _ (.mu (kx2.at hat0))⟩
      · cases hl
section
variable {X : Cx} {E : XK} {elt tg iter : Expr} {ifs : List Expr} {scope : Scope} {own : List (Str × Nat)} {pos : Pos} {mi : MM IT} {is : List Nat} {set : SetE} {mt : MM Bool} {me : MM D}
theorem de_lc (hc : X.calm = true) (hN : X.N.Nodup) (hi : DI X E tg iter mi) (ok : BlkOk X.N X.env.scope scope own)
    (hg : ∀ (s : Shared) (H : Hp) (C : Addr) (cl : List (Str × Addr)) (fp : List Addr), DG (X.blk s H scope (compEnvC scope cl C X.env) fp) tg is set)
    (ht : ∀ (s : Shared) (H : Hp) (C : Addr) (cl : List (Str × Addr)) (fp : List Addr), DTs (X.blk s H scope (compEnvC scope cl C X.env) fp) E0 ifs mt)
    (he : ∀ (s : Shared) (H : Hp) (C : Addr) (cl : List (Str × Addr)) (fp : List Addr), DE (X.blk s H scope (compEnvC scope cl C X.env) fp) E0 elt me)
    (hs : ∀ x, foldedSetIterable iter X.env x = pure x) (his : ∀ i ∈ is, i ∈ own.map (·.2)) :
    DE X E (.ListComp elt [⟨tg, iter, ifs, 0⟩] scope pos) (mLc mi (own.map (·.2)) set mt me) :=
  pe_imp (pe_lc hc hN hi ok hg ht he hs) fun σ H Q h => lc_bnd his h
end
end M2
set_option Elab.async false
set_option linter.all false
set_option maxRecDepth 100000
set_option maxHeartbeats 2000000
namespace M2
open PySem PySem.Spec PyProof.Rows L2
open Classical

inductive Ctl where
  | nx | rt (d : D) | er (c : Addr)
abbrev MS := En → Sto → Option (Ctl × En × Sto)
def PC (K : PySem.W.Frag) (E : XK) (D : Ends) (c : Ctl) (en : En) (φ : List Addr) (H : Hp) : Prop := match c with
  | .nx => ∀ σ, RE K H φ σ en → D.nx σ H
  | .rt d => ∀ v, VD K H φ v d → D.rt v H
  | .er c => E (.ref c) none H
def Sat (K : PySem.W.Frag) (E : XK) (m : MS) (σ : L2.St) (en : En) (st : Sto) (φ : List Addr) (H : Hp) (D : Ends) : Prop :=
  RE K H φ σ en ∧ RS K H φ st ∧ ∃ c en' st', m en st = some (c, en', st') ∧ ∀ φ' H', KX H φ H' φ' → RS K H' φ' st' → PC K E D c en' φ' H'
def tSM (K : PySem.W.Frag) (E : XK) (m : MS) : TS := fun D σ H => ∃ en st φ, Sat K E m σ en st φ H D
abbrev DS1 (X : Cx) (E : XK) (s : Stmt) (m : MS) : Prop := PS X s (tSM X.K E m)
abbrev DSs (X : Cx) (E : XK) (s : List Stmt) (m : MS) : Prop := PSs X s (tSM X.K E m)
/-- an expression's value to a statement's end -/
def sEx {α : Type} (m : MM α) (k : α → MS) : MS := fun en st => match m en st with
  | none => none
  | some (.error c, st1) => some (.er c, en, st1)
  | some (.ok a, st1) => k a en st1
def sNx : MS := fun en st => some (.nx, en, st)
def sSeq (a b : MS) : MS := fun en st => match a en st with
  | some (.nx, en1, st1) => b en1 st1
  | o => o
section
variable {α : Type} {K : PySem.W.Frag} {E : XK} {σ : L2.St} {en : En} {st : Sto} {φ : List Addr} {H : Hp} {D : Ends}
theorem Sat.ex {m : MM α} {k : α → MS} (h : Sat K E (sEx m k) σ en st φ H D) (he : ∀ (c : Addr) H', E (.ref c) none H' → E (.ref c) none H') : Gat K E m σ en st φ H fun st1 a φ1 H1 => KX H φ H1 φ1 ∧ RS K H1 φ1 st1 ∧ Sat K E (k a) σ en st1 φ1 H1 D := by
  obtain ⟨re, rs, c, en', st', e, q⟩ := h
  refine ⟨re, rs, ?_⟩
  unfold sEx at e
  split at e
  · cases e
  · rename_i c st1 hm
    cases e
    exact ⟨_, _, hm, fun φ' H' kx rs' => q φ' H' kx rs'⟩
  · rename_i a st1 hm
    exact ⟨_, _, hm, fun φ1 H1 kx rs1 => ⟨kx, rs1, re.mono kx, rs1, c, en', st', e, fun φ' H' kx' rs' => q φ' H' (kx.trans kx') rs'⟩⟩
theorem Sat.ex' {m : MM α} {k : α → MS} (h : Sat K E (sEx m k) σ en st φ H D) : Gat K E m σ en st φ H fun st1 a φ1 H1 => KX H φ H1 φ1 ∧ RS K H1 φ1 st1 ∧ Sat K E (k a) σ en st1 φ1 H1 D := h.ex fun _ _ x => x
end
def sAsg (m : MM D) (f : SetE) : MS := sEx m fun d => fun en st => (f d en).map fun en' => (.nx, en', st)
def sExpr (m : MM D) : MS := sEx m fun _ => sNx
def sRet (m : MM D) : MS := sEx m fun d => fun en st => some (.rt d, en, st)
def sIf (c : MM Bool) (a b : MS) : MS := sEx c fun k => if k = true then a else b
noncomputable def sLoop (it : IT) (set : SetE) (body : MS) : List D → MS
  | [] => fun en st => if gOk it st then some (.nx, en, st) else none
  | d :: r => fun en st => if gOk it st then
      match set d en with
      | none => none
      | some en1 => match body en1 st with
        | some (.nx, en2, st2) => sLoop it set body r en2 st2
        | o => o
    else none
noncomputable def sFor (mi : MM IT) (set : SetE) (body : MS) : MS := sEx mi fun it => sLoop it set body it.items
section
variable {X : Cx} {E : XK} {pos : Pos} {e tg iter : Expr} {s : Stmt} {ss : List Stmt} {m m' : MS} {me : MM D} {mt : MM Bool} {mi : MM IT} {f : SetE} {is : List Nat}
theorem dss_nil : DSs X E [] sNx := pss_imp pss_nil fun D σ H ⟨en, st, φ, re, rs, c, en', st', e, q⟩ => by
  cases e
  exact q φ H .refl rs σ re
theorem dss_cons (h1 : DS1 X E s m) (h2 : DSs X E ss m') : DSs X E (s :: ss) (sSeq m m') :=
  pss_imp (pss_cons h1 h2) fun D σ H ⟨en, st, φ, re, rs, c, en', st', e, q⟩ => by
    unfold sSeq at e
    split at e
    · rename_i en1 st1 h
      refine ⟨en, st, φ, re, rs, _, _, _, h, fun φ1 H1 kx rs1 σ1 re1 => ?_⟩
      exact ⟨en1, st1, φ1, re1, rs1, c, en', st', e, fun φ' H' kx' rs' => q φ' H' (kx.trans kx') rs'⟩
    · rename_i o h
      refine ⟨en, st, φ, re, rs, c, en', st', e, fun φ' H' kx rs' => ?_⟩
      have z := q φ' H' kx rs'
      cases c with
      | nx => exact (h _ _ e).elim
      | rt d => exact z
      | er c => exact z
theorem ds_asg (he : DE X E e me) (hg : DG X tg is f) (hs : swapsWithSole [tg] e pos.line X.env = pure false) (hw : swappedStores [tg] e X.env = pure none) (h1 : (assignEach [tg] X.env).map (·.2) = [assign tg X.env]) : DS1 X E (.Assign [tg] e pos) (sAsg me f) :=
  ps_imp (ps_asg he hg hs hw h1) fun D σ H ⟨en, st, φ, g⟩ => ⟨en, st, φ, g.ex'.imp fun st1 d φ1 H1 _ _ ⟨k1, r1, re, rs, c, en', st', e, q⟩ v hv => by
    replace e : (f d en).map (fun en' => (Ctl.nx, en', st1)) = some (c, en', st') := e
    cases hf : f d en with
    | none => rw [hf] at e; cases e
    | some en1 =>
      rw [hf] at e; cases e
      exact ⟨en, φ1, d, _, re, hv, hf, fun σ' re' _ => q φ1 H1 .refl rs σ' re'⟩⟩
theorem set_bnd {K : PySem.W.Frag} {i : Nat} {D : Ends} {σ : L2.St} {H : Hp} (h : tSM K E (sAsg me (setN i)) D σ H) : tM K E me σ H fun v H1 => D.nx (σ.set i (some v)) H1 := by
  obtain ⟨en, st, φ, g⟩ := h
  refine ⟨en, st, φ, g.ex'.imp fun st1 d φ1 H1 _ _ ⟨k1, r1, re, rs, c, en', st', e, q⟩ v hv => ?_⟩
  replace e : (setN i d en).map (fun en' => (Ctl.nx, en', st1)) = some (c, en', st') := e
  cases hf : setN i d en with
  | none => rw [hf] at e; cases e
  | some en1 =>
    rw [hf] at e; cases e
    unfold setN at hf
    split at hf
    · cases hf
      exact q φ1 H1 .refl rs _ (re.set hv)
    · cases hf
theorem ds_set {i : Nat} {x : Str} {pos' : Pos} (hN : X.N.Nodup) (hi : X.N[i]? = some x) (hx : Loc X.env.scope x) (he : DE X E e me) (hs : swapsWith e (some (.Name x pos')) pos.line X.env = pure false) (hf : X.fn x = true ∨ X.env.scope.names.lookup x = some .local) :
    DS1 X E (.Assign [.Name x pos'] e pos) (sAsg me (setN i)) := ps_imp (ps_set hN hi hx he hs hf) fun D σ H h => set_bnd h
theorem ds_setLc {i : Nat} {y : Str} {py spos : Pos} {elt : Expr} {ifs : List Expr} {scope : Scope} {own : List (Str × Nat)} (hc : X.calm = true) (hN : X.N.Nodup) (hy : X.N[i]? = some y) (hyl : X.env.scope.names.lookup y = some .local)
    (hsw : swapsWith (.ListComp elt [⟨tg, iter, ifs, 0⟩] scope pos) (some (.Name y py)) spos.line X.env = pure true) (hi : DI X E tg iter mi) (ok : BlkOk X.N X.env.scope scope own)
    (hg : ∀ (s : Shared) (H : Hp) (C : Addr) (cl : List (Str × Addr)) (fp : List Addr), DG (X.blk s H scope (compEnvC scope cl C X.env) fp) tg is f)
    (ht : ∀ (s : Shared) (H : Hp) (C : Addr) (cl : List (Str × Addr)) (fp : List Addr), DTs (X.blk s H scope (compEnvC scope cl C X.env) fp) E0 ifs mt)
    (he : ∀ (s : Shared) (H : Hp) (C : Addr) (cl : List (Str × Addr)) (fp : List Addr), DE (X.blk s H scope (compEnvC scope cl C X.env) fp) E0 elt me)
    (hs : ∀ x, foldedSetIterable iter X.env x = pure x) (his : ∀ i ∈ is, i ∈ own.map (·.2)) :
    DS1 X E (.Assign [.Name y py] (.ListComp elt [⟨tg, iter, ifs, 0⟩] scope pos) spos) (sAsg (mLc mi (own.map (·.2)) f mt me) (setN i)) :=
  ps_imp (ps_setLc hc hN hy hyl hsw hi ok hg ht he hs) fun D σ H h => lc_bnd his (set_bnd h)
theorem ds_expr (he : DE X E e me) (hs : swapsWith e none pos.line X.env = pure false) : DS1 X E (.Expr e pos) (sExpr me) :=
  ps_imp (ps_expr he hs) fun D σ H ⟨en, st, φ, g⟩ => ⟨en, st, φ, g.ex'.imp fun st1 d φ1 H1 _ _ ⟨k1, r1, re, rs, c, en', st', e, q⟩ v hv => by
    cases e
    exact q φ1 H1 .refl rs σ re⟩
theorem ds_ret (he : DE X E e me) : DS1 X E (.Return (some e) pos) (sRet me) :=
  ps_imp (ps_ret he) fun D σ H ⟨en, st, φ, g⟩ => ⟨en, st, φ, g.ex'.imp fun st1 d φ1 H1 _ _ ⟨k1, r1, re, rs, c, en', st', e, q⟩ v hv => by
    cases e
    exact q φ1 H1 .refl rs v hv⟩
theorem ds_retN : DS1 X E (.Return none pos) (sRet (ret .non)) :=
  ps_imp ps_retN fun D σ H ⟨en, st, φ, g⟩ => by
    obtain ⟨re, rs, c, en', st', e, q⟩ := g
    cases e
    exact q φ H .refl rs _ .non
theorem ds_if {c : Expr} {a b : List Stmt} (hc : DT X E c mt) (ha : DSs X E a m) (hb : DSs X E b m') : DS1 X E (.If c a b pos) (sIf mt m m') :=
  ps_imp (ps_if hc ha hb) fun D σ H ⟨en, st, φ, g⟩ => ⟨en, st, φ, g.ex'.imp fun st1 k φ1 H1 _ _ ⟨k1, r1, g1⟩ => by
    cases k with
    | true => rw [if_pos rfl] at g1 ⊢; exact ⟨en, st1, φ1, g1⟩
    | false => rw [if_neg Bool.false_ne_true] at g1 ⊢; exact ⟨en, st1, φ1, g1⟩⟩
theorem ds_for {body : List Stmt} (hp : PassesOwn (model X.prog X.w) X.A X.env X.xe) (hc : X.calm = true) (hi : DI X E tg iter mi) (hg : DG X tg is f) (hb : DSs X E body m) (hs : ∀ x, foldedSetIterable iter X.env x = pure x) :
    DS1 X E (.For tg iter body [] pos) (sFor mi f m) :=
  ps_imp (ps_for hp hc hi hg hb hs) fun D σ H ⟨en, st, φ, g⟩ => ⟨en, st, φ, g.ex'.imp fun st1 it φ1 H1 _ _ ⟨k1, r1, re, rs, c, en', st', hl, q⟩ J hJ => by
    refine ⟨fun i m0 σ H2 => m0 = it.items.length - i ∧ i ≤ it.items.length ∧ ∃ en2 st2 φ2, RE X.K H2 φ2 σ en2 ∧ RS X.K H2 φ2 st2 ∧ KX H1 φ1 H2 φ2 ∧ sLoop it f m (it.items.drop i) en2 st2 = some (c, en', st'), ⟨_, rfl, Nat.zero_le _, en, st1, φ1, re, rs, .refl, hl⟩, ?_⟩
    rintro i m0 σ2 H2 ⟨rfl, hi, en2, st2, φ2, re2, rs2, kx2, hl⟩
    by_cases hlt : i < it.items.length
    · rw [List.drop_eq_getElem_cons hlt] at hl
      unfold sLoop at hl
      split at hl
      · rename_i hg
        obtain ⟨j1, j2, j3⟩ := hJ φ2 H2 st2 kx2 rs2 hg
        refine .inr ⟨j1 i hlt, fun σ H3 => (i + 1) ≤ it.items.length ∧ ∃ en2 st2 φ2, RE X.K H3 φ2 σ en2 ∧ RS X.K H3 φ2 st2 ∧ KX H1 φ1 H3 φ2 ∧ sLoop it f m (it.items.drop (i + 1)) en2 st2 = some (c, en', st'), fun σ' H' ⟨p1, p⟩ => ⟨_, by omega, rfl, p1, p⟩, fun x H3 hy => ?_⟩
        obtain ⟨d, e1, kx3, rs3, vx⟩ := j3 i x H3 hlt hy
        rw [List.getElem?_eq_getElem hlt] at e1
        cases e1
        cases hset : f it.items[i] en2 with
        | none => simp only [hset] at hl; cases hl
        | some en3 =>
          simp only [hset] at hl
          refine ⟨en2, φ2, it.items[i], en3, re2.mono kx3, vx, hset, fun σ3 re3 _ => ?_⟩
          cases hb : m en3 st2 with
          | none => simp only [hb] at hl; cases hl
          | some p =>
            obtain ⟨c2, en4, st4⟩ := p
            refine ⟨en3, st2, φ2, re3, rs3, c2, en4, st4, hb, fun φ5 H5 kx5 rs5 => ?_⟩
            have kxa := (kx2.trans kx3).trans kx5
            cases c2 with
            | nx =>
              simp only [hb] at hl
              intro σ5 re5
              exact ⟨hlt, en4, st4, φ5, re5, rs5, kxa, hl⟩
            | rt d =>
              simp only [hb] at hl
              cases hl
              exact q φ5 H5 kxa rs5
            | er d =>
              simp only [hb] at hl
              cases hl
              exact q φ5 H5 kxa rs5
      · cases hl
    · have e : i = it.items.length := by omega
      subst e
      rw [List.drop_length] at hl
      unfold sLoop at hl
      split at hl
      · rename_i hg
        obtain ⟨j1, j2, j3⟩ := hJ φ2 H2 st2 kx2 rs2 hg
        cases hl
        exact .inl ⟨j2, q φ2 H2 kx2 rs2 σ2 re2⟩
      · cases hl⟩
/-- code that is not come to -/
def sNever : MS := fun _ _ => none
theorem dss_never : DSs X E ss sNever := pss_imp pss_never fun D σ H ⟨en, st, φ, re, rs, c, en', st', e, q⟩ => by cases e
theorem ds_pass : DS1 X E (.Pass pos) sNx := ps_imp ps_pass fun D σ H ⟨en, st, φ, re, rs, c, en', st', e, q⟩ => by
  cases e
  exact q φ H .refl rs σ re
/-- a[i] = v, a list -/
def sPut (mv ma mi : MM D) : MS := sEx mv fun v => sEx ma fun a => sEx mi fun i => fun en st => match a, i with
  | .mu l, .int k => (st[l]?).bind fun ds => (ixN ds.length k).map fun j => (.nx, en, st.set l (ds.set j v))
  | _, _ => none
theorem ds_put {o i : Expr} {mo mi : MM D} {ipos : Pos} (he : DE X E e me) (ho : DE X E o mo) (hi : DE X E i mi)
    (hg : ∀ {to ti : TE}, PE X o to → PE X i ti → PG X (.Subscript o i ipos) (gSub to ti rSetL))
    (hs : swapsWithSole [.Subscript o i ipos] e pos.line X.env = pure false) (hw : swappedStores [.Subscript o i ipos] e X.env = pure none) (h1 : (assignEach [.Subscript o i ipos] X.env).map (·.2) = [assign (.Subscript o i ipos) X.env]) :
    DS1 X E (.Assign [.Subscript o i ipos] e pos) (sPut me mo mi) :=
  ps_imp (ps_asg he (hg ho hi) hs hw h1) fun D σ H ⟨en, st, φ, g⟩ => ⟨en, st, φ, g.ex'.imp fun st1 dv φ1 H1 _ _ ⟨k1, r1, g1⟩ v hv =>
    ⟨en, st1, φ1, g1.ex'.imp fun st2 da φ2 H2 _ _ ⟨k2, r2, g2⟩ a ha => ⟨en, st2, φ2, g2.ex'.imp fun st3 di φ3 H3 _ _ ⟨k3, r3, re, rs, c, en', st', e, q⟩ i hi => by
      cases da with
      | mu l =>
        cases di with
        | int k =>
          cases e2 : st3[l]? with
          | none => simp only [e2] at e; cases e
          | some ds =>
            simp only [e2] at e
            replace e : (ixN ds.length k).map (fun j => (Ctl.nx, en, st3.set l (ds.set j dv))) = some (c, en', st') := e
            cases e3 : ixN ds.length k with
            | none => rw [e3] at e; cases e
            | some j =>
              rw [e3] at e; cases e
              obtain ⟨p, rfl, hp⟩ := (ha.mono k3).mutI
              cases hi
              obtain ⟨ws, g3, g4⟩ := r3.get l p ds hp e2
              refine ⟨p, ws, k, j, rfl, rfl, g3, by rw [g4.length]; exact e3, ?_⟩
              obtain ⟨kx, rr⟩ := put_lst (xs := ws.set j v) (ds := ds.set j dv) r3 hp (g4.set ((hv.mono k2).mono k3) j)
              exact q φ3 _ kx rr σ (re.mono kx)
        | _ => cases e
      | _ => cases e⟩⟩⟩
/-- l.append(v) -/
def locD : D → Option Nat
  | .mu l => some l
  | _ => none
def mApp (ml mv : MM D) : MM D := bnd ml fun d => bnd (lft (locD d)) fun l => bnd (mArgs [mv]) fun vs => stm fun st => match vs with
  | [v] => (st[l]?).bind fun ds => if ds.length < 100000 then some (.non, st.set l (ds ++ [v])) else none
  | _ => none
theorem locD_some {d : D} {l : Nat} (h : locD d = some l) : d = .mu l := by
  cases d <;> first | (cases h; rfl) | cases h
theorem de_app {o : Expr} {mo mv : MM D} {apos cpos : Pos} (ho : DE X E o mo) (ha : DA X E [e] (mArgs [mv]))
    (hpe : ∀ {to : TE} {t : TA}, PE X o to → PA X [e] t → PE X (.Call (.Attribute o "append" apos) [e] [] cpos) (tBM X.K "list" rAppend to t)) :
    DE X E (.Call (.Attribute o "append" apos) [e] [] cpos) (mApp mo mv) :=
  pe_imp (hpe ho ha) fun σ H Q ⟨en, st, φ, g⟩ => ⟨en, st, φ, g.bind.imp fun st1 dl φ1 H1 _ _ ⟨k1, r1, g1⟩ x hx => by
    obtain ⟨l, el, _, _, g2⟩ := g1.bind.lft
    rw [locD_some el] at hx
    obtain ⟨p, rfl, hp⟩ := hx.mutI
    have hl : l < st1.length := by rw [← r1.len]; exact (List.getElem?_eq_some_iff.mp hp).1
    obtain ⟨ws, gw, _⟩ := r1.get l p st1[l] hp (List.getElem?_eq_getElem hl)
    refine ⟨.inl ⟨rfl, ws, .of gw⟩, en, st1, φ1, g2.bind.imp fun st3 vs φ3 H3 _ _ g4 us hu => ?_⟩
    obtain ⟨k3, r3, g5⟩ := g4
    obtain ⟨z, st4, e4, q4⟩ := g5.stm
    cases vs with
    | nil => cases e4
    | cons dv rest =>
      cases rest with
      | cons _ _ => cases e4
      | nil =>
        cases e5 : st3[l]? with
        | none => simp only [e5] at e4; cases e4
        | some ds =>
          simp only [e5] at e4
          replace e4 : (if ds.length < 100000 then some (D.non, st3.set l (ds ++ [dv])) else none) = some (z, st4) := e4
          by_cases hlen : ds.length < 100000
          · rw [if_pos hlen] at e4
            cases e4
            obtain ⟨w, rfl, hw⟩ := hu.one
            obtain ⟨xs, g6, g7⟩ := r3.get l p ds (k3.at hp) e5
            refine ⟨p, xs, w, rfl, rfl, g6, Evl.sz_lt (by rw [g7.length]; exact hlen), ?_⟩
            obtain ⟨kx, rr⟩ := put_lst (xs := xs ++ [w]) (ds := ds ++ [dv]) r3 (k3.at hp) (g7.app (.cons hw .nil))
            exact q4 φ3 _ kx rr _ .non
          · rw [if_neg hlen] at e4
            cases e4⟩
end
end M2
set_option Elab.async false
set_option linter.all false
set_option maxRecDepth 100000
set_option maxHeartbeats 2000000
namespace M2
open PySem PySem.Spec PyProof.Rows L2
open Classical

/-! ### a def by its body's mirror -/
def envOf (n : Nat) (ds : List D) : En := ds.map some ++ List.replicate (n - ds.length) none
def runF (n : Nat) (m : MS) : FD := fun ds st => match m (envOf n ds) st with
  | some (.nx, _, st') => some (.ok .non, st')
  | some (.rt d, _, st') => some (.ok d, st')
  | some (.er c, _, st') => some (.error c, st')
  | none => none
theorem re_start {K : PySem.W.Frag} {H : Hp} {φ : List Addr} {N : List Str} {vs : List V} {ds : List D} (h : VDs K H φ vs ds) : RE K H φ (L2.start N vs) (envOf N.length ds) := by
  unfold L2.start envOf
  rw [h.length]
  refine ⟨by simp [h.length], fun i d e => ?_⟩
  by_cases hi : i < ds.length
  · rw [List.getElem?_append_left (by simpa using hi), List.getElem?_map, List.getElem?_eq_getElem hi] at e
    replace e : ds[i] = d := by simpa using e
    obtain ⟨v, e1, e2⟩ := h.get (i := i) (d := d) (by rw [List.getElem?_eq_getElem hi, e])
    refine ⟨v, ?_, e2⟩
    rw [List.getElem?_append_left (by simp [h.length]; exact hi), List.getElem?_map, e1]; rfl
  · rw [List.getElem?_append_right (by simpa using hi)] at e
    have := List.mem_of_getElem? e
    simp at this
section
variable {P : Program} {w : World} {K : PySem.W.Frag} {mg : Str → Option Value} {base : Heap}
theorem fng_df {x q : Str} {st : Stmt} {f : Addr} {fd : FuncData} {N ps : List Str} {k : Nat} {m : MS} (F : Fun K x q st f fd) (S : FnScope N ps (defScope st))
    (body : ∀ (cd : Value) (A : Around) (ou : List Env) (s : Shared) (H : Hp) (E : XK), A.guards = some [] → Room k (A.deeper (envOfC q (defScope st) s.heap.objs.size f cd)) →
      DSs (cxOf (L2.CX P w) P w K mg base N q (defScope st) f cd A ou s H E) E (defBody st) m) :
    FnG P w K mg base (L2.CX P w) (k + 1) f fd ps (spF K ps.length (runF N.length m)) := by
  refine fng_of F S (fun vs H Q E h => ?_) fun cd A ou s H vs Q E hg hr h => ⟨_, body cd A ou s H E hg hr, ?_⟩
  · obtain ⟨ds, st, φ, r, st', hv, _, hn, _⟩ := h
    rw [hv.length, hn]
  · obtain ⟨ds, st, φ, r, st', hv, rs, hn, e, q⟩ := h
    unfold runF at e
    cases hm : m (envOf N.length ds) st with
    | none => rw [hm] at e; cases e
    | some p =>
      obtain ⟨c, en', st2⟩ := p
      rw [hm] at e
      refine ⟨_, st, φ, re_start hv, rs, c, en', st2, hm, fun φ' H' kx rs' => ?_⟩
      cases c with
      | nx => cases e; exact fun σ _ => q φ' H' kx rs' _ .non
      | rt d => cases e; exact fun v vd => q φ' H' kx rs' v vd
      | er c => cases e; exact q φ' H' kx rs'
theorem df_of {x q : Str} {st : Stmt} {f : Addr} {fd : FuncData} {N ps : List Str} {k : Nat} {m : MS} (F : Fun K x q st f fd) (S : FnScope N ps (defScope st)) (hm : mg x = some (.ref f)) (hb : Binds K fd ps [])
    (body : ∀ (cd : Value) (A : Around) (ou : List Env) (s : Shared) (H : Hp) (E : XK), A.guards = some [] → Room k (A.deeper (envOfC q (defScope st) s.heap.objs.size f cd)) →
      DSs (cxOf (L2.CX P w) P w K mg base N q (defScope st) f cd A ou s H E) E (defBody st) m) :
    Df P w K mg base x (k + 1) ps.length (runF N.length m) :=
  ⟨f, fd, ps, hm, F.kp, hb, fng_df F S body⟩
end
theorem passC {P : Program} {w : World} {K : PySem.W.Frag} {mg : Str → Option Value} {base : Heap} {N : List Str} {q : Str} {sc : Scope} {f : Addr} {cd : Value} {A : Around} {ou : List Env} {s : Shared} {H : Hp} {E : XK} :
    Passes (L2.CX P w) (cxOf (L2.CX P w) P w K mg base N q sc f cd A ou s H E) E :=
  passes_call (takes_of rfl rfl rfl rfl) fun _ _ _ _ h => h
theorem ownC {P : Program} {w : World} {K : PySem.W.Frag} {mg : Str → Option Value} {base : Heap} {N : List Str} {q : Str} {sc : Scope} {f : Addr} {cd : Value} {A : Around} {ou : List Env} {s : Shared} {H : Hp} {E : XK} :
    PassesOwn (model P w) (A.deeper (envOfC q sc s.heap.objs.size f cd)) (envOfC q sc s.heap.objs.size f cd) (cxOf (L2.CX P w) P w K mg base N q sc f cd A ou s H E).xe :=
  passes_of (X := cxOf (L2.CX P w) P w K mg base N q sc f cd A ou s H E) rfl

/-! ### raise -/
structure ExF (K : PySem.W.Frag) (mg : Str → Option Value) (x : Str) (C : Addr) : Prop where
  g : mg x = some (.ref C)
  q : PySem.W.excIn K C [.type "ValueError", .type "Exception", .type "BaseException", .type "object"] "ValueError.__new__" = true
  k : PySem.W.keepIn K (.ref C) = true
  b : PySem.W.subIn K (.ref C) (.type "BaseException") = some true
  t : PySem.W.typeIn K (.ref C) = some (.type "type")
def sRaise (C : Addr) : MS := fun en st => some (.er C, en, st)
theorem ds_raise {X : Cx} {E : XK} {x m : Str} {j : Nat} {p p2 pos pos2 : Pos} {C : Addr} (T : ExF X.K X.mg x C) (hc : X.calm = true) (tk : Takes X fun cls d _ H => E cls d H) (hg : Gl X x)
    (hmk : PMk X (.Call (.Name x p) [.Constant (.str m) j p2] [] pos) (fun _ H Q => Q (.ref C) none H)) :
    DS1 X E (.Raise (some (.Call (.Name x p) [.Constant (.str m) j p2] [] pos)) none pos2) (sRaise C) :=
  ps_imp (ps_raise hc tk hmk) fun D σ H ⟨en, st, φ, re, rs, c, en', st', e, q⟩ => by
    cases e
    exact q φ H .refl rs

/-! ### the law's end -/
section
variable {P : Program} {w : World} {K : PySem.W.Frag} {mg mb : Str → Option Value} {k : Nat} {fa a : Addr} {fd : FuncData} {x : Str} {sp : Sp} {s1 : Shared} {us : List Value} {ns : List Int}
def LawEnd (s1 : Shared) : Result → Shared → Prop := fun r s2 => r = .ok (.ret (.bool true)) ∧ OldK s1.heap s2.heap ∧ s2.os = s1.os ∧ AllBare s2.gens
/-- from an abstract heap that tracks the script at most -/
theorem law_from (inK : K.In s1.heap) (nm : s1.heap.Ns mainGlobals mg) (nb : s1.heap.Ns builtinsNs mb) (eb : ∀ y : Str, y ≠ "__name__" → mb y = bootBuiltins y) (nl : s1.heap.NoLimit) (ng : s1.gens = #[])
    (at_a : s1.heap.get? a = some { cls := .type "list", data := .seq us.toArray }) (room : Room k callerA)
    (F : ∀ bs : Heap, K.In bs → bs.Ns mainGlobals mg → FnG P w K mg bs (L2.CX P w) k fa fd [x] sp) (bnds : ∀ (s : Shared) (u : Value), BindsTo s fd ⟨[u], []⟩ [(x, u)])
    (H : Hp) (only : Only H) (ok : HOk P w H s1.heap) (atH : ∀ b, H b ≠ none → b = a) (offK : H a ≠ none → K.lookup a = none) (want : sp [.ref a] H (fun v _ => v = .bl true) fun _ _ _ => False) :
    codeAny (model P w) callerA (.call (.ref fa) ⟨[.ref a], []⟩) (LawEnd s1) s1 := by
  have hid : ∀ {b : Addr} {o : Obj}, s1.heap.get? b = some o → b ≠ a → (hidT s1.heap H).get? b = some o := fun {b o} e n => hidT_get e (by
    cases z : H b with
    | none => rfl
    | some u => exact absurd (atH b (by rw [z]; exact fun q => nomatch q)) n)
  have names : ∀ {b : Addr} {m : Str → Option Value}, s1.heap.Ns b m → (hidT s1.heap H).Ns b m := by
    rintro b m ⟨o, es, ep, e, d, r⟩
    refine ⟨o, es, ep, hid e (fun z => ?_), d, r⟩
    rw [z, at_a] at e
    cases e
    exact Data.noConfusion d
  have kin : K.In (hidT s1.heap H) := fun b o e => by
    by_cases z : b = a
    · subst z
      refine hidT_get (inK b o e) ?_
      cases y : H b with
      | none => rfl
      | some u =>
        have := offK (by rw [y]; exact fun q => nomatch q)
        rw [this] at e; cases e
    · exact hid (inK b o e) z
  have md : Mod K mg (hidT s1.heap H) := by
    obtain ⟨mc, l1, l2⟩ := nl
    exact ⟨kin, names nm, ⟨mb, names nb, eb⟩, mc, names l1, l2⟩
  have en0 : Env0 P w K mg (hidT s1.heap H) callerA [] s1 H :=
    { frames := rfl, mod := md, bs := fun b o e => of_hidT e, bsz := Nat.le_of_eq (hidT_size _ _), funs := trivial, frf := fun b z => absurd (show b ∈ ([] : List Addr) from z) (by simp), hok := ok, bare := .of_eq ng }
  refine codeAny_mono ((F _ kin (names nm)).run callerA [] s1 H ⟨[.ref a], []⟩ [.ref a] [.ref a] _ _ rfl room en0 (bnds s1 (.ref a)) (.cons rfl .nil) want) fun r s2 z => ?_
  match r, z with
  | .error e, ⟨_, _, _, _, _, _, _, _, _, _, _, _, no⟩ => exact no.elim
  | .ok (.ret u), ⟨v, H2, os2, bare2, un2, ok2, rel, isT⟩ =>
    subst isT
    cases rel
    refine ⟨rfl, OldK.of_keep fun b o e => ?_, os2, bare2⟩
    rcases only b with z | ⟨ob, xs, z⟩
    · exact un2.keep b o e z (fun y => absurd (show b ∈ ([] : List Addr) from y) (by simp)) (by simp)
    · have e1 := (ok b _ z).1
      have e2 := (ok2 b _ (un2.frzs b ob _ z)).1
      rw [e] at e1
      rw [e2, ← e1]
theorem law_G (inK : K.In s1.heap) (nm : s1.heap.Ns mainGlobals mg) (nb : s1.heap.Ns builtinsNs mb) (eb : ∀ y : Str, y ≠ "__name__" → mb y = bootBuiltins y) (nl : s1.heap.NoLimit) (ng : s1.gens = #[])
    (at_a : s1.heap.get? a = some { cls := .type "list", data := .seq us.toArray }) (are : IntsAre us ns) (few : ns.length ≤ sizeLine) (room : Room k callerA)
    (F : ∀ bs : Heap, K.In bs → bs.Ns mainGlobals mg → FnG P w K mg bs (L2.CX P w) k fa fd [x] sp) (bnds : ∀ (s : Shared) (u : Value), BindsTo s fd ⟨[u], []⟩ [(x, u)])
    (want : ∀ H : Hp, Only H → SqR K H a (ns.map V.int) → sp [.ref a] H (fun v _ => v = .bl true) fun _ _ _ => False) :
    codeAny (model P w) callerA (.call (.ref fa) ⟨[.ref a], []⟩) (LawEnd s1) s1 := by
  have rel := vals_ints are
  cases z : K.lookup a with
  | some o =>
    have e := inK a o z
    rw [at_a] at e
    cases e
    exact law_from inK nm nb eb nl ng at_a room F bnds (fun _ => none) (fun _ => .inl rfl) (fun _ _ y => nomatch y) (fun _ y => absurd rfl y) (fun y => absurd rfl y)
      (want _ (fun _ => .inl rfl) (.inr ⟨_, us.toArray, _, z, rfl, rfl, rfl, by rw [List.size_toArray, are.length]; exact few, by simpa using rel⟩))
  | none =>
    have at1 : ∀ b u, (if b = a then some (HO.frz { cls := .type "list", data := .seq us.toArray } (.lst (ns.map V.int))) else none) = some u → b = a ∧ u = HO.frz { cls := .type "list", data := .seq us.toArray } (.lst (ns.map V.int)) := fun b u y => by
      split at y
      · rename_i h
        cases y
        exact ⟨h, rfl⟩
      · cases y
    have only : Only fun b => if b = a then some (HO.frz { cls := .type "list", data := .seq us.toArray } (.lst (ns.map V.int))) else none := fun b => by
      by_cases h : b = a
      · exact .inr ⟨_, _, if_pos h⟩
      · exact .inl (if_neg h)
    refine law_from inK nm nb eb nl ng at_a room F bnds _ only (fun b u y => ?_) (fun b y => ?_) (fun _ => z) (want _ only (.inl ⟨_, if_pos rfl⟩))
    · obtain ⟨rfl, rfl⟩ := at1 b u y
      exact ⟨at_a, by rw [List.length_map]; exact few, us, _, rel, at_a⟩
    · cases h : (if b = a then some (HO.frz { cls := .type "list", data := .seq us.toArray } (.lst (ns.map V.int))) else none) with
      | none => exact absurd h y
      | some u => exact (at1 b u h).1
end
theorem walk_G {l : PySem.W.OpenLaw} {n k : Nat} {q : Program} {loose : List Str} {XP : (Str → Option Value) → Heap → Prop} {YP : World → Heap → Prop} {d : DefRec} {K : Params → PySem.W.Frag} {sp : World → Sp} {x : Str}
    (hn : l.most = some n) (n2 : n ≤ sizeLine) (noD : d.params.defaults = []) (room : Room k callerA) (hY : ∀ (w : World) (h : Heap), YP w h → (K w.params).In h)
    (F : ∀ (w : World) (mg : Str → Option Value) (fa : Addr) (h : Heap), (K w.params).In h → h.Ns mainGlobals mg → mg d.name = some (.ref fa) →
      ∃ fd : FuncData, (∀ (s : Shared) (u : Value), BindsTo s fd ⟨[u], []⟩ [(x, u)]) ∧ ∀ bs : Heap, (K w.params).In bs → bs.Ns mainGlobals mg → FnG l.prog w (K w.params) mg bs (L2.CX l.prog w) k fa fd [x] (sp w))
    (want : ∀ (w : World) (H : Hp) (a : Addr) (ns : List Int), ns.length ≤ n → Only H → SqR (K w.params) H a (ns.map V.int) → sp w [.ref a] H (fun v _ => v = .bl true) fun _ _ _ => False) :
    PySem.W.WalkO q loose XP YP l.row.toRowW d [] (fun f vs => PySem.call f vs) := by
  refine Att.attach_call hn noD fun w s0 s1 mg mb fa o pm cd doc a us ns G Y ho hd hcd hmg hobj are few hg => ?_
  obtain ⟨fd, bnds, hF⟩ := F w mg fa _ (hY w _ Y) G.T.g hmg
  exact law_G (hY w _ Y) G.T.g G.T.b G.T.builtins G.T.nolimit hg hobj are (Nat.le_trans few n2) room hF bnds fun H hO hS => want w H a ns few hO hS
end M2
set_option Elab.async false
set_option linter.all false
set_option maxRecDepth 100000
set_option maxHeartbeats 2000000
namespace PySem
open PySem.Calls
/-! max(xs, default=d) and min(xs, default=d) of an iterator's values -/
section
variable {prog : Program} {w : World} {A : Around} {R : Result → Shared → Prop} {I S : Addr} {fp wr : List Addr} {n : Nat} {P : Nat → Value → Prop} {St : Nat → Heap → Prop} {bt : Nat → Nat → Bool} {d : Value}
/-- the best so far, twice, or nothing yet -/
def BestOf (P : Nat → Value → Prop) (bt : Nat → Nat → Bool) (i : Nat) (old : List Value) : Prop := (i = 0 ∧ old = []) ∨ ∃ vb j, i = j + 1 ∧ old = [vb, vb] ∧ P (argBest bt j) vb
theorem maxD_loop (W : Walks prog w A.in1 I fp wr n P St) (cmp : CmpOf prog w A.in1 .Gt P bt) (sf : S ∉ fp) (m : Nat) : ∀ (i : Nat) (s : Shared) (old : List Value) (c : Nat), n - i = m → i ≤ n → St i s.heap → BestOf P bt i old →
    s.heap.get? S = some { cls := .type "list", dict := none, data := .seq old.toArray c, slots := #[] } →
    (∀ v h' tk, ((n = 0 ∧ v = d) ∨ ∃ j, n = j + 1 ∧ P (argBest bt j) v) → (∀ b o, b ∉ wr → b ≠ S → s.heap.get? b = some o → h'.get? b = some o) → R (.ok (.ret v)) { s with heap := h', toks := tk }) →
    codeAny (model prog w) A (.builtin "max.loop" ⟨[.ref I, .none, .ref S], [(Str.ofString "default", d)]⟩) R s := by
  have sw : S ∉ wr := fun h => sf (W.sub _ h)
  have nm : (toString "max" ++ toString ".loop" : String) = "max.loop" := by decide
  induction m with
  | zero =>
    intro i s old c hk hi hst hb hS hR
    have hin : i = n := by omega
    subst hin
    refine codeAny_builtin F.entry_max_loop ?_
    rw [Around.under_plainId F.plain_max_loop _]
    show wpAny _ A.in1 (seqItems? (.ref S) >>= _) _ _ s
    refine wpAny_bind (wpAny_seqItems hS rfl ?_)
    show wpAny _ A.in1 (tryCatch (pyNext (.ref I)) _ >>= _) _ _ s
    refine wpAny_bind (wpAny_tryCatch (W.done s _ _ hst fun h' tk kp => ?_))
    have hS' := kp S _ sw hS
    rcases hb with ⟨e1, e2⟩ | ⟨vb, j, e1, e2, hP⟩
    · subst e2
      show wpAny _ A.in1 (rule _ >>= _) _ _ _
      refine wpAny_bind (wpAny_rule (wpAny_pure ?_))
      exact hR d h' tk (.inl ⟨e1, rfl⟩) fun b o h1 h2 e => kp b o h1 e
    · subst e2
      show wpAny _ A.in1 (updateSeq S (fun _ => #[]) >>= _) _ _ _
      refine wpAny_bind ?_
      refine wpAny_updateSeq hS' rfl (wpAny_bind (wpAny_letGo (wpAny_pure ?_)))
      exact hR vb _ tk (.inr ⟨j, e1, hP⟩) fun b o h1 h2 e => (Heap.get?_update_other _ _ (Ne.symm h2)).trans (kp b o h1 e)
  | succ m ih =>
    intro i s old c hk hi hst hb hS hR
    have hlt : i < n := by omega
    refine codeAny_builtin F.entry_max_loop ?_
    rw [Around.under_plainId F.plain_max_loop _]
    show wpAny _ A.in1 (seqItems? (.ref S) >>= _) _ _ s
    refine wpAny_bind (wpAny_seqItems hS rfl ?_)
    show wpAny _ A.in1 (tryCatch (pyNext (.ref I)) _ >>= _) _ _ s
    refine wpAny_bind (wpAny_tryCatch (W.item i s _ _ hlt hst fun v h' tk hP st1 kp => ?_))
    have hS' := kp S _ sw hS
    rcases hb with ⟨e1, e2⟩ | ⟨vb, j, e1, e2, hB⟩
    · subst e2
      show wpAny _ A.in1 (updateSeq S (fun _ => #[v, v]) >>= _) _ _ _
      refine wpAny_bind ?_
      refine wpAny_updateSeq hS' rfl ?_
      rw [nm]
      refine wpAny_pure ⟨plainId_quiet F.plain_max_loop _, ih (i + 1) _ [v, v] _ (by omega) hlt (W.frame _ _ _ st1 fun b hbf o e => ?_) (.inr ⟨v, i, rfl, rfl, by rw [e1] at hP ⊢; exact hP⟩) (Heap.get?_update_self _ hS' rfl) fun v' h2 tk2 hv k2 => ?_⟩
      · exact (Heap.get?_update_other _ _ (fun h : S = b => sf (by rw [h]; exact hbf))).trans e
      · exact hR v' h2 tk2 hv fun b o h1 h3 e => k2 b o h1 h3 ((Heap.get?_update_other _ _ (Ne.symm h3)).trans (kp b o h1 e))
    · subst e2
      show wpAny _ A.in1 (tryCatch (holding [v, v] (richCompare .Gt v vb >>= _)) _ >>= _) _ _ _
      refine wpAny_bind (wpAny_tryCatch (wpAny_holding (wpAny_bind (cmp i (argBest bt j) v vb _ _ _ hP hB ?_))))
      refine wpAny_bind (wpAny_holding (wpAny_truthy_bool ?_))
      refine wpAny_bind (wpAny_letGo (wpAny_pure ?_))
      cases hc : bt i (argBest bt j) with
      | true =>
        simp only [if_true]
        refine wpAny_bind ?_
        refine wpAny_updateSeq hS' rfl (wpAny_bind (wpAny_letGo ?_))
        rw [nm]
        refine wpAny_pure ⟨plainId_quiet F.plain_max_loop _, ih (i + 1) _ [v, v] _ (by omega) hlt (W.frame _ _ _ st1 fun b hbf o e => ?_) (.inr ⟨v, i, rfl, rfl, by subst e1; simp only [argBest, hc, if_true]; exact hP⟩) (Heap.get?_update_self _ hS' rfl) fun v' h2 tk2 hv k2 => ?_⟩
        · exact (Heap.get?_update_other _ _ (fun h : S = b => sf (by rw [h]; exact hbf))).trans e
        · exact hR v' h2 tk2 hv fun b o h1 h3 e => k2 b o h1 h3 ((Heap.get?_update_other _ _ (Ne.symm h3)).trans (kp b o h1 e))
      | false =>
        simp only [Bool.false_eq_true, if_false]
        refine wpAny_bind (wpAny_letGo ?_)
        rw [nm]
        refine wpAny_pure ⟨plainId_quiet F.plain_max_loop _, ih (i + 1) _ [vb, vb] c (by omega) hlt st1 (.inr ⟨vb, i, rfl, rfl, by subst e1; simp only [argBest, hc, Bool.false_eq_true, if_false]; exact hB⟩) hS' fun v' h2 tk2 hv k2 => ?_⟩
        exact hR v' h2 tk2 hv fun b o h1 h3 e => k2 b o h1 h3 (kp b o h1 e)
end
theorem F.args_maxD (a d : Value) : argsOk "max" ⟨[a], [(Str.ofString "default", d)]⟩ := by unfold argsOk; kernel_rfl
section
variable {prog : Program} {w : World} {A : Around} {E : Value → Shared → Prop} {s : Shared}
theorem kw_function {id : String} {b : Builtin} {ar : List Value} {kw : List (Str × Value)} {Q : Value → Shared → Prop} (hk : builtinKind id = none) (hp : plainId id = true) (hb : entryFor table id = some b) (ha : argsOk id ⟨ar, kw⟩)
    (run : wpAny (model prog w) A.in1 (b ⟨ar, kw⟩) (fun fin s' => match fin with
      | .done f => (match (Except.ok f : Result) with | .ok (.ret v) => Q v s' | .ok _ => False | .error e => E e s')
      | .again c => c.quiet = true ∧ codeAny (model prog w) A c (fun r s2 => match r with | .ok (.ret v) => Q v s2 | .ok _ => False | .error e => E e s2) s') E s) :
    wpAny (model prog w) A (call (.builtin id) ar kw) Q E s := by
  refine wpAny_call (codeAny_call_builtin hp hb ?_)
  simp only [checkBuiltinCall, hk]
  cases sg : Manifest.signature? id with
  | none => exact wpAny_pure run
  | some sig =>
    simp only [argsOk, sg] at ha
    show wpAny _ A.in1 (Bind.checkArgs id sig ⟨ar, kw⟩) _ _ s
    rw [show Bind.checkArgs id sig ⟨ar, kw⟩ = pure () from ha]
    exact wpAny_pure run
theorem max_listD {l : Addr} {xs : Array (Int × Tok)} {d : Value} {Q : Value → Shared → Prop} (hh : A.handled = none) (hl : s.heap.IsList l (intItems xs))
    (h : ∀ v h' tk, ((xs.size = 0 ∧ v = d) ∨ ∃ j, xs.size = j + 1 ∧ (intItems xs)[argBest (fun i j => decide (numAt xs i > numAt xs j)) j]? = some v) → (∀ b o, s.heap.get? b = some o → h'.get? b = some o) → Q v { s with heap := h', toks := tk }) :
    wpAny (model prog w) A (call (.builtin "max") [.ref l] [(Str.ofString "default", d)]) Q E s := by
  refine kw_function F.kind_max F.plain_max F.entry_max (F.args_maxD _ _) ?_
  show wpAny _ A.in1 (Builtin.Builtins.bindParams "max" ["key", "default"] 0 ⟨[], [(Str.ofString "default", d)]⟩ >>= _) _ _ s
  refine wpAny_bind (wpAny_of_eq (show Builtin.Builtins.bindParams "max" ["key", "default"] 0 ⟨[], [(Str.ofString "default", d)]⟩ = pure [none, some d] from rfl) ?_)
  refine wpAny_bind (wpAny_pure ?_)
  refine wpAny_bind (iter_intList hl fun s2 e st hfp ne => ?_)
  subst e
  have W := Walks.list (prog := prog) (w := w) (A := A.in1) hh s.heap.objs.size l ne (intItems xs)
  refine wpAny_bind (wpAny_newObj_type ?_)
  rw [show (toString "max" ++ toString ".loop" : String) = "max.loop" by decide]
  refine wpAny_pure ⟨plainId_quiet F.plain_max_loop _, maxD_loop (n := (intItems xs).size) W (CmpOf.ints_gt (numAt xs) (fun _ _ => intItems_at)) (fun z => Nat.lt_irrefl _ (hfp _ z)) _ 0 _ [] _ rfl (Nat.zero_le _)
    (W.frame _ _ _ st fun b _ o e => Heap.get?_push_of_some _ e) (.inl ⟨rfl, rfl⟩) (Heap.get?_push_size _ rfl) fun v h' tk hv hk => ?_⟩
  refine h v h' tk (by simpa [intItems] using hv) fun b o e => ?_
  have e1 := Heap.get?_push_of_some { cls := .type "list_iterator", data := .fields #[.ref l, .int 0 0] } e
  have lb : b < s.heap.objs.size := Heap.lt_size e
  exact hk b o (fun z => by
    have y : b = s.heap.objs.size := by simpa using z
    exact absurd lb (by rw [y]; exact Nat.lt_irrefl _)) (fun z => by
    have y : b = s.heap.objs.size + 1 := by simpa [Heap.size_push] using z
    exact absurd lb (by rw [y]; exact Nat.not_lt.mpr (Nat.le_succ _))) (Heap.get?_push_of_some _ e1)
end
end PySem

namespace M2
open PySem PySem.Spec PyProof.Rows L2
def rMaxDf (K : PySem.W.Frag) : List V → List V → Hp → VK → Prop := fun vs zs H Q => ∃ (a : Addr) (ns : List Int) (dv : V), vs = [V.ref a] ∧ zs = [dv] ∧ SqL K H a (ns.map V.int) ∧ (ns = [] → Q dv H) ∧ ∀ m ∈ ns, (∀ y ∈ ns, y ≤ m) → Q (.int m) H
theorem cr_maxDf {X : Cx} (hc : X.calm = true) : CallRK X (.builtin "max") [Str.ofString "default"] (rMaxDf X.K) := by
  intro pins s σ H vs zs us ws Q I r rz h
  obtain ⟨a, ns, dv, rfl, rfl, hs, q0, q⟩ := h
  obtain ⟨its, rv, hl, _⟩ := I.list hs
  rw [Vals.ref1 r]
  obtain ⟨wd, rfl, rd⟩ := rz.one
  have hi : IntsAre its ns := rv.ints
  obtain ⟨xs, e⟩ := hi.allInts.items
  have hn : numsOf (intItems xs).toList = ns := by rw [← e]; exact hi.numsOf
  rw [nums_intItems] at hn
  have hl' := hl.isList
  rw [e] at hl'
  refine max_listD (I.ok.hd hc) hl' fun v h' tk hv hk => ?_
  rcases hv with ⟨e0, rfl⟩ | ⟨j, ej, hj⟩
  · refine ⟨dv, H, I.kept hk, rd, q0 ?_⟩
    rw [← hn]
    have : xs.toList = [] := List.length_eq_zero_iff.mp (by rw [Array.length_toList]; exact e0)
    rw [this]; rfl
  · obtain ⟨t, rfl⟩ := intItems_at hj
    obtain ⟨h1, h2⟩ := argBest_gt (numAt xs) j
    refine ⟨.int _, H, I.kept hk, ⟨t, rfl⟩, q _ ?_ fun y hy => ?_⟩
    · rw [← hn, numAt_eq]
      exact PySem.getD_mem (by rw [List.length_map, Array.length_toList]; omega)
    · rw [← hn] at hy
      obtain ⟨i, hi2, rfl⟩ := mem_getD hy
      rw [List.length_map, Array.length_toList] at hi2
      have := h2 i (by omega)
      rw [numAt_eq] at this
      exact this
def fMaxDf : List D → List D → Sto → Option (D × Sto) := fun ds es st => match ds, es with
  | [.mu l], [d] => ((st[l]?).bind intsD).map fun ns => (match maxL ns with | some m => .int m | none => d, st)
  | _, _ => none
def mMaxDf (m md : MM D) : MM D := bnd (mArgs [m]) fun ds => bnd (mArgs [md]) fun es => stm (fMaxDf ds es)
theorem de_maxDf {X : Cx} {E : XK} {p pos kpos : Pos} {e de : Expr} {me md : MM D} (hc : X.calm = true) (hg : Gl X "max") (hm : X.mg "max" = none) (he : DE X E e me) (hd : DE X E de md)
    (hpe : ∀ {t tk : TA}, PA X [e] t → PK X [⟨some (Str.ofString "default"), de, kpos⟩] tk → CallRK X (.builtin "max") [Str.ofString "default"] (rMaxDf X.K) → PE X (.Call (.Name "max" p) [e] [⟨some (Str.ofString "default"), de, kpos⟩] pos) (tCKw (rMaxDf X.K) t tk))
    (hs : starEach [e] X.env = (false, eval e X.env) :: starEach [] X.env) :
    DE X E (.Call (.Name "max" p) [e] [⟨some (Str.ofString "default"), de, kpos⟩] pos) (mMaxDf me md) :=
  pe_imp (hpe (da_cons he da_nil hs) (pk_cons hd pk_nil) (cr_maxDf hc)) fun σ H Q ⟨en, st, φ, g⟩ => ⟨en, st, φ, g.bind.imp fun st1 ds φ1 H1 _ _ ⟨k1, r1, g1⟩ vs hv => by
    refine ⟨en, st1, φ1, g1.bind.bind.imp fun st2 d φ2 H2 _ _ ⟨k2, r2, g2⟩ z hz => ?_⟩
    obtain ⟨_, _, g3⟩ := g2.bind.ret
    obtain ⟨_, _, g4⟩ := (show Gat X.K E (ret [d]) σ en st2 φ2 H2 _ from g2).ret
    obtain ⟨x, st3, e3, q⟩ := g4.stm
    unfold fMaxDf at e3
    cases ds with
    | nil => cases e3
    | cons d0 r0 =>
      cases r0 with
      | cons _ _ => cases d0 <;> cases e3
      | nil =>
        cases d0 with
        | mu l =>
          cases e4 : st2[l]? with
          | none => simp only [e4] at e3; cases e3
          | some xs =>
            cases e5 : intsD xs with
            | none => simp only [e4, Option.bind_some, e5] at e3; cases e3
            | some ns =>
              simp only [e4, Option.bind_some, e5, Option.map_some] at e3
              cases e3
              obtain ⟨v, rfl, hv1⟩ := hv.one
              obtain ⟨a, rfl, ha⟩ := (hv1.mono k2).mutI
              obtain ⟨ws, g5, g6⟩ := r2.get l a xs ha e4
              rw [intsD_eq e5] at g6
              refine ⟨a, ns, z, rfl, rfl, by rw [← g6.ints]; exact .of g5, fun h0 => ?_, fun m hm hall => ?_⟩
              · subst h0
                exact q φ2 H2 .refl r2 z hz
              · cases e6 : maxL ns with
                | none => cases ns with
                  | nil => cases hm
                  | cons _ _ => cases e6
                | some mm =>
                  rw [e6] at q
                  obtain ⟨m1, m2⟩ := maxL_some e6
                  rw [show m = mm from Int.le_antisymm (m2 m hm) (hall mm m1)]
                  exact q φ2 H2 .refl r2 _ .int
        | _ => cases e3⟩
end M2
set_option Elab.async false
set_option linter.all false
set_option maxRecDepth 100000
set_option maxHeartbeats 4000000
namespace PySem
open AutoSeq1 (wpAny_loadPart')
/-! enumerate(a tuple) -/
theorem enumT_new {v : Value} {o : Obj} {H : Heap → Prop} (B : Begins v o H) :
    Meets (Builtin.«enumerate.__new__» ⟨[.type "enumerate", v], []⟩) (fun _ R s => H s.heap ∧ R (.ok (.ret (.ref (s.heap.push o).objs.size)))
      { s with heap := (s.heap.push o).push { cls := .type "enumerate", data := .fields #[.none, .bool false, .ref s.heap.objs.size, rawInt 0, .none, .none] } }) :=
  .of_wp fun prog w A R s z => by
    obtain ⟨hp, gs, dr, tk, os⟩ := s
    obtain ⟨z1, z2⟩ := z
    have sb := sub_enumerate
    have it : ∀ {A2 : Around} {E : Value → Shared → Prop} {Q : Value → Shared → Prop}, Q (.ref hp.objs.size) ⟨hp.push o, gs, dr, tk, os⟩ → wpAny (model prog w) A2 (pyIter v) Q E ⟨hp, gs, dr, tk, os⟩ :=
      fun q => B.iter prog w _ _ ⟨hp, gs, dr, tk, os⟩ _ z1 q
    wp_walk using it
    refine wpAny_stack_any fun st => wpAny_pure ?_
    split
    · rename_i c _ _ _ _ _
      cases (c == Value.type "enumerate") <;> (wp_walk using it) <;> exact ⟨_, rfl, z2⟩
    · wp_walk using it
      exact ⟨_, rfl, z2⟩
theorem enumT_call {prog : Program} {w : World} {A : Around} {E : Value → Shared → Prop} {s : Shared} {v : Value} {o : Obj} {H : Heap → Prop} {Q : Value → Shared → Prop} (B : Begins v o H) (h1 : H s.heap)
    (q : ∀ h', IsEnum h' (s.heap.objs.size + 1) s.heap.objs.size 0 .none → h'.get? s.heap.objs.size = some o → (∀ b u, s.heap.get? b = some u → h'.get? b = some u) → Q (.ref (s.heap.objs.size + 1)) { s with heap := h' }) :
    wpAny (model prog w) A (call (.type "enumerate") [v]) Q E s := by
  refine callType_new F.called_enumerate (by decide) (F.typeCall_enumerate_1 _) (F.newCall_enumerate_1 _) (fun obj => F.args_object_init_2 obj _) F.entry_enumerate_new (enumT_new B) ⟨h1, ?_⟩
  have sz : (s.heap.push o).objs.size = s.heap.objs.size + 1 := Heap.size_push ..
  show _ ∧ _
  rw [sz]
  have e2 : IsEnum ((s.heap.push o).push { cls := .type "enumerate", data := .fields #[.none, .bool false, .ref s.heap.objs.size, rawInt 0, .none, .none] }) (s.heap.objs.size + 1) s.heap.objs.size 0 .none := by
    have y := Heap.get?_push_size (s.heap.push o) (o := { cls := .type "enumerate", data := .fields #[.none, .bool false, .ref s.heap.objs.size, rawInt 0, .none, .none] }) rfl
    rw [sz] at y
    exact y
  exact ⟨⟨_, e2, rfl⟩, q _ e2 (Heap.get?_push_of_some _ (Heap.get?_push_size _ B.free)) fun b u x => Heap.get?_push_of_some _ (Heap.get?_push_of_some _ x)⟩
theorem enumT_end {prog : Program} {w : World} {A : Around} {E : Value → Shared → Prop} {s : Shared} {e it l : Addr} {i : Int} {j : Nat} {items : Array Value} {old : Value} {Q : Option Value → Shared → Prop} (hh : A.handled = none)
    (he : IsEnum s.heap e it i old) (hit : s.heap.IsTupleIter it l j) (hl : s.heap.IsTuple l items) (hx : items[j]? = none) (hQ : ∀ h', Heap.ExtBut it s.heap h' → Q none { s with heap := h' }) : wpAny (model prog w) A (pyNext (.ref e)) Q E s := by
  have hT : s.TypeIs (.ref e) "enumerate" := ⟨_, he, rfl⟩
  unfold pyNext
  refine wpAny_bind (wpAny_attempt (wpAny_callSpecial?_slot (name := Str.ofString "__next__") hT F.slot_enumerate_next (wpAny_call_entry F.slot_enumerate_next hT F.entry_enumerate_next ?_ (F.args_enumerate_next_1 _))))
  show wpAny _ _ (field (.ref e) 2 >>= _) _ _ _
  refine wpAny_bind (wpAny_field he rfl (x := .ref it) rfl (wpAny_bind (wpAny_nextOf_tuple_end hh hit hl hx fun h2 x k2 z => ?_)))
  obtain ⟨o, ho, oc⟩ := z
  exact wpAny_bind (wpAny_isInstance (T := "StopIteration") (b := true) ⟨o, ho, oc⟩ isSubtype_stop (wpAny_pure (hQ _ k2)))
end PySem
namespace M2
open PySem PySem.Spec PyProof.Rows L2
/-- the tuple at a, each item in a new pair -/
def IteT (K : PySem.W.Frag) (a : Addr) : It :=
  ⟨fun i H => ∃ (xs : List V) (x : V), SqT K H a xs ∧ xs[i]? = some x, fun i H v H' => ∃ T x, v = .ref T ∧ H T = none ∧ H' = upd H T (.tup [.int (i : Nat), x]) ∧ ∀ xs, SqT K H a xs → xs[i]? = some x, fun i H => ∃ xs : List V, SqT K H a xs ∧ xs.length ≤ i⟩
theorem turn_enumT {P : Program} {w : World} {K : PySem.W.Frag} {elts : List Expr} {kk : Nat} {tpos : Pos} (a e it : Addr) :
    Turn P w K (.Tuple elts kk tpos) (IteT K a) [e, it] e (fun i h => (∃ old, IsEnum h e it ((i : Nat) : Int) old) ∧ h.IsTupleIter it a i ∧ e ≠ it) where
  mem := by simp
  obj := fun i h z b hb => by
    obtain ⟨⟨old, he⟩, ⟨o, ho, _, hd⟩, _⟩ := z
    rcases (show b = e ∨ b = it by simpa using hb) with y | y
    · subst y; exact ⟨_, he, fun v q => nomatch q⟩
    · subst y; exact ⟨o, ho, fun v q => by rw [hd] at q; cases q⟩
  keep := fun i h h' z k => by
    obtain ⟨⟨old, he⟩, hi, n1⟩ := z
    exact ⟨⟨old, k e (by simp) _ he⟩, hi.at fun o q => k it (by simp) o q, n1⟩
  item := by
    intro X hP hw hK hc i pins s σ H E I hf z hg
    subst hP hw hK
    obtain ⟨⟨old, he⟩, hi, ne⟩ := z
    obtain ⟨xs, x, hq, hx⟩ := hg
    obtain ⟨its, rv, pt, hz⟩ := I.tuple hq
    obtain ⟨u, hu, ru⟩ := rv.get hx
    have le : e < s.heap.objs.size := Heap.lt_size he
    have li : it < s.heap.objs.size := by obtain ⟨_, q, _⟩ := hi; exact Heap.lt_size q
    have nea : e ≠ a := fun q => by
      obtain ⟨o, ho, hcl, _⟩ := pt
      rw [← q] at ho
      rw [show s.heap.get? e = _ from he] at ho
      cases ho
      exact absurd hcl (by simp)
    have nia : a ≠ it := fun q => by
      obtain ⟨o, ho, hcl, _⟩ := pt
      obtain ⟨o2, ho2, hc2, _⟩ := hi
      rw [q, ho2] at ho
      cases ho
      rw [hc2] at hcl
      exact absurd hcl (by simp)
    have ti : s.heap.IsTuple a its.toArray := pt
    have DR := Draws.tuple (prog := X.prog) (w := X.w) (A := X.A.in1) (I.ok.hd hc) it a nia its.toArray
    have hlt : i < its.toArray.size := by simpa using (List.getElem?_eq_some_iff.mp hu).1
    refine wpAny_pyNext_enum_itemD DR he ⟨hi, ti⟩ hlt ne (by simp [ne, nea]) fun y h' tk hy ho st2 hT hsz hk => ?_
    obtain rfl : y = u := by
      have e1 : its[i]? = some y := by simpa using hy
      rw [hu] at e1
      exact (Option.some.inj e1).symm
    refine ⟨_, rfl, wpAny_letOwnedTupleGo_enum (s := { s with heap := h', toks := tk + 1 }) ho fun h2 he2 sb => ?_⟩
    have hT2 : h2.get? s.heap.objs.size = some { cls := .type "tuple", data := .seq #[.int i tk, y] } := (sb.2 _ (Nat.ne_of_gt le)).trans hT
    have new : ObjOk X.prog X.w (upd H s.heap.objs.size (.tup [.int (i : Nat), x])) h2 s.heap.objs.size (.tup [.int (i : Nat), x]) :=
      ⟨by show 2 ≤ sizeLine; decide, [.int i tk, y], .cons ⟨_, rfl⟩ (.cons ru .nil), ⟨_, hT2, rfl, _, rfl⟩⟩
    have I1 : Inv X pins σ (upd H s.heap.objs.size (.tup [.int (i : Nat), x])) { s with heap := h2, toks := tk + 1 } :=
      I.turnedNew (ch := [e, it]) (fun b ob hb q => (sb.2 b (fun z => hb (by simp [z]))).trans (hk b ob (fun z => hb (by simp [z])) (fun z => hb (by simp [z])) q)) hf (Nat.le_refl _) new
    refine ⟨.ref s.heap.objs.size, _, I1, rfl, ⟨_, x, rfl, I.hok.fresh (Nat.le_refl _), rfl, fun ys hy => by rw [I.tuple_inj hy hq]; exact hx⟩, ⟨⟨y, ?_⟩, st2.1.at fun o q => (sb.2 it (Ne.symm ne)).trans q, ne⟩, fun b hb => ?_⟩
    · rw [show ((i + 1 : Nat) : Int) = (i : Int) + 1 by omega]; exact he2
    · have lb : b < s.heap.objs.size := by
        rcases (show b = e ∨ b = it by simpa using hb) with q | q
        · subst q; exact le
        · subst q; exact li
      rw [upd_ne (Nat.ne_of_lt lb)]
      exact (hf b hb).1
  done := by
    intro X hP hw hK hc i pins s σ H E I hf z hg
    subst hP hw hK
    obtain ⟨⟨old, he⟩, hi, ne⟩ := z
    obtain ⟨xs, hq, hx⟩ := hg
    obtain ⟨its, rv, pt, hz⟩ := I.tuple hq
    have nia : a ≠ it := fun q => by
      obtain ⟨o, ho, hcl, _⟩ := pt
      obtain ⟨o2, ho2, hc2, _⟩ := hi
      rw [q, ho2] at ho
      cases ho
      rw [hc2] at hcl
      exact absurd hcl (by simp)
    obtain ⟨f0, f1, f2, f3, f4, f5⟩ := hf it (by simp)
    have ln := rv.length
    -- the tuple's iterator is at its end or beyond: what is drawn of the items from here on is nothing
    have hend : its.toArray[i]? = none := by simp; omega
    have ti : s.heap.IsTuple a its.toArray := pt
    exact enumT_end (I.ok.hd hc) he hi ti hend fun h' eb => ⟨rfl, I.turned (t' := s.toks) (fun b o hb q => eb b o hb q) f0 f1 f3 f4 f5⟩
  self := fun A i s Q E z q => by
    obtain ⟨⟨_, he⟩, _⟩ := z
    exact wpAny_pyIter_enum he q
def iEnumT (K : PySem.W.Frag) (ta : TA) : TI := fun σ H R => ta σ H fun vs H1 => ∃ a xs, vs = [.ref a] ∧ SqT K H1 a xs ∧ R (IteT K a) H1
theorem pi_enumT {X : Cx} {e : Expr} {ta : TA} {p pos tpos : Pos} {elts : List Expr} {kk : Nat} (hg : Gl X "enumerate") (hm : X.mg "enumerate" = none) (ha : PA X [e] ta) (hs : starEach [e] X.env = [(false, eval e X.env)]) :
    PI X (.Tuple elts kk tpos) (.Call (.Name "enumerate" p) [e] [] pos) (iEnumT X.K ta) := by
  refine ⟨fun pins s σ H R I h => Call_ (ld_blt I hg hm boot_enumerate (PyProof.Rows.callWith_type1 (thn (ha.run pos pins s σ H _ I h) fun us s1 z => ?_) hs rfl))⟩
  obtain ⟨vs, H1, I1, r1, a, xs, ex, hq, q⟩ := z
  subst ex
  obtain ⟨u, rfl, ru⟩ := vals1 r1
  cases ru
  obtain ⟨its, rv, pt, hz⟩ := I1.tuple hq
  have la : a < s1.heap.objs.size := by obtain ⟨o, ho, _⟩ := pt; exact Heap.lt_size ho
  refine enumT_call (begins_tuple a its.toArray) pt fun h' he hit hk => wpAny_pyIter_enum he ?_
  have I2 : Inv X pins σ H1 { s1 with heap := h' } := I1.kept (t' := s1.toks) hk
  refine ⟨s1.heap.objs.size + 1, [s1.heap.objs.size + 1, s1.heap.objs.size], _, _, H1, rfl, I2, turn_enumT a (s1.heap.objs.size + 1) s1.heap.objs.size, ⟨⟨.none, he⟩, ⟨_, hit, rfl, rfl⟩, Nat.succ_ne_self _⟩, fun b hb => ?_, q⟩
  have hle : s1.heap.objs.size ≤ b := by
    rcases (show b = s1.heap.objs.size + 1 ∨ b = s1.heap.objs.size by simpa using hb) with y | y
    · rw [y]; exact Nat.le_add_right _ _
    · rw [y]; exact Nat.le_refl _
  exact I1.fpOk hle (I1.hok.fresh hle)
theorem itr_enumT {K : PySem.W.Frag} {a : Addr} {vs : List V} {ds : List D} {φ0 : List Addr} {H0 : Hp} (h : SqT K H0 a vs) (r : VDs K H0 φ0 vs ds) : ItR K ⟨numbered 0 ds, none⟩ (IteT K a) φ0 H0 := fun φ H st kx rs _ => by
  have h' := kx.sqT h
  have r' := r.mono kx
  have hl := r'.length
  have nl := numbered_len 0 ds
  refine ⟨fun i hi => ?_, ⟨vs, h', by show vs.length ≤ (numbered 0 ds).length; omega⟩, fun i x H' hi hy => ?_⟩
  · have hi' : i < (numbered 0 ds).length := hi
    exact ⟨vs, vs[i]'(by omega), h', by simp⟩
  · have hi' : i < (numbered 0 ds).length := hi
    obtain ⟨T, v, rfl, hT, rfl, e2⟩ := hy
    have e3 := e2 vs h'
    have hd : i < ds.length := by omega
    obtain ⟨v', g1, g2⟩ := r'.get (List.getElem?_eq_getElem hd)
    rw [e3] at g1; cases g1
    obtain ⟨kx2, rs2⟩ := lay_tup (xs := [.int (i : Nat), v]) rs hT
    refine ⟨.tup [.int (i : Int), ds[i]], ?_, kx2, rs2, .tup (.of upd_same) (.cons .int (.cons (g2.mono kx2) .nil))⟩
    show (numbered 0 ds)[i]? = _
    rw [numbered_get, List.getElem?_eq_getElem hd, Nat.zero_add]; rfl
theorem di_enumT {X : Cx} {E : XK} {e : Expr} {me : MM D} {p pos tpos : Pos} {elts : List Expr} {kk : Nat} (hg : Gl X "enumerate") (hm : X.mg "enumerate" = none) (ha : DA X E [e] (mArgs [me])) (hs : starEach [e] X.env = [(false, eval e X.env)]) :
    DI X E (.Tuple elts kk tpos) (.Call (.Name "enumerate" p) [e] [] pos) (mEnum me) :=
  pi_imp (pi_enumT hg hm ha hs) fun σ H R ⟨en, st, φ, g⟩ => by
    refine ⟨en, st, φ, ?_⟩
    obtain ⟨re, rs, r, st', em, q⟩ := g.bind
    refine ⟨re, rs, r.map (fun d => [d]), st', ?_, fun φ' H' kx rs' => ?_⟩
    · show bnd me (fun d => bnd (ret []) fun ds => ret (d :: ds)) en st = _
      unfold bnd
      rw [em]
      cases r <;> rfl
    · have z := q φ' H' kx rs'
      cases r with
      | error c => exact z
      | ok d =>
        intro vs hv
        obtain ⟨v, rfl, h⟩ := hv.one
        obtain ⟨_, _, g1⟩ := z
        obtain ⟨it, e1, q1⟩ := g1.asg
        cases d with
        | tup ds =>
          cases e1
          obtain ⟨a, ws, rfl, h1, h2⟩ := h.tupI
          exact ⟨a, ws, rfl, h1, q1 _ (itr_enumT h1 h2)⟩
        | _ => cases e1
end M2
set_option Elab.async false
set_option linter.all false
set_option maxRecDepth 100000
set_option maxHeartbeats 4000000
namespace M2
open PySem PySem.Spec PyProof.Rows L2

/-! ### == and != of texts or of data -/
def fEqA : FD2 := fun x y st => match x, y with
  | .str a, .str b => some (.bl (decide (a = b)), st)
  | x, y => fEq x y st
def fNeA : FD2 := fun x y st => match x, y with
  | .str a, .str b => some (.bl (!decide (a = b)), st)
  | x, y => fNe x y st
section
variable {X : Cx}
theorem op_eqA (hu : X.A.units + 64 < cLine) : OpR X (compareOp .Eq) (fun x y H Q => rEq x y H Q ∨ rEqD X.K x y H Q) := op_eq.or (op_eqD hu)
theorem op_neA (hu : X.A.units + 64 < cLine) : OpR X (compareOp .NotEq) (fun x y H Q => rNe x y H Q ∨ rNeD X.K x y H Q) := op_ne.or (op_neD hu)
theorem opd_eqA : OpD X (fun x y H Q => rEq x y H Q ∨ rEqD X.K x y H Q) fEqA := by
  intro H φ st Q x y dx dy dz st' rs vx vy hf q
  unfold fEqA at hf
  split at hf
  · cases hf; cases vx; cases vy
    refine .inl ⟨rfl, ?_⟩
    simp only [V.str.injEq]
    exact q _ φ H .refl rs .bl
  · exact .inr (opd_eq H φ st Q x y _ _ dz st' rs vx vy hf q)
theorem opd_neA : OpD X (fun x y H Q => rNe x y H Q ∨ rNeD X.K x y H Q) fNeA := by
  intro H φ st Q x y dx dy dz st' rs vx vy hf q
  unfold fNeA at hf
  split at hf
  · cases hf; cases vx; cases vy
    refine .inl ⟨rfl, ?_⟩
    simp only [V.str.injEq]
    exact q _ φ H .refl rs .bl
  · exact .inr (opd_ne H φ st Q x y _ _ dz st' rs vx vy hf q)
end
/-! ### a, b = x, y -/
def sPar (i j : Nat) (ms : List (MM D)) : MS := sEx (mArgs ms) fun ds => fun en st => match ds with
  | [v, w] => if i < en.length ∧ j < en.length then some (.nx, (en.set i (some v)).set j (some w), st) else none
  | _ => none
section
variable {X : Cx} {E : XK}
theorem ds_par {i j : Nat} {x y : Str} {a b : Expr} {ms : List (MM D)} {px py pt pos : Pos} {kt k2 : Nat} {pt2 : Pos} (hc : X.calm = true) (hN : X.N.Nodup) (hi : X.N[i]? = some x) (hj : X.N[j]? = some y) (hij : i ≠ j)
    (hx : X.env.scope.names.lookup x = some .local) (hy : X.env.scope.names.lookup y = some .local) (ha : DA X E [a, b] (mArgs ms))
    (hw : swappedStores [.Tuple [.Name x px, .Name y py] kt pt] (.Tuple [a, b] k2 pt2) X.env = pure (some [x, y])) (hs : swapsWithSole [.Tuple [.Name x px, .Name y py] kt pt] (.Tuple [a, b] k2 pt2) pos.line X.env = pure false) :
    DS1 X E (.Assign [.Tuple [.Name x px, .Name y py] kt pt] (.Tuple [a, b] k2 pt2) pos) (sPar i j ms) :=
  ps_imp (ps_par hc hN hi hj hij hx hy ha hw hs) fun D σ H ⟨en, st, φ, g⟩ => ⟨en, st, φ, g.ex'.imp fun st1 ds φ1 H1 _ _ ⟨k1, r1, re, rs, c, en', st', e, q⟩ vs hv => by
    cases ds with
    | nil => cases e
    | cons v r =>
      cases r with
      | nil => cases e
      | cons w r =>
        cases r with
        | cons _ _ => cases e
        | nil =>
          replace e : (if i < en.length ∧ j < en.length then some (Ctl.nx, (en.set i (some v)).set j (some w), st1) else none) = some (c, en', st') := e
          split at e
          · cases e
            obtain ⟨v', w', rfl, h1, h2⟩ := hv.two
            exact ⟨v', w', rfl, q φ1 H1 .refl rs _ ((re.set h1).set h2)⟩
          · cases e⟩
theorem de_glob {x : Str} {pos : Pos} {i : Int} (hg : Gl X x) (hm : ∃ t, X.mg x = some (.int i t)) (hd : (x == ("__debug__" : Str)) = false) : DE X E (.Name x pos) (ret (.int i)) := by
  obtain ⟨t, hm⟩ := hm
  exact de_c (pe_glob (v := .int i) hg hm ⟨t, rfl⟩ hd) fun _ _ _ => .int
theorem de_tyn {x : Str} {pos : Pos} {n : String} (hg : Gl X x) (hm : X.mg x = none) (hv : bootBuiltins x = some (.type n)) (hn : x ≠ "__name__") (hd : (x == ("__debug__" : Str)) = false) : DE X E (.Name x pos) (ret (.ty n)) :=
  de_c (pe_bltn (v := .ty n) hg hm hv rfl hn hd) fun _ _ _ => .ty
end
/-- none of these names is the module's own -/
structure Bt (mg : Str → Option Value) : Prop where
  len : mg "len" = none
  max : mg "max" = none
  min : mg "min" = none
  sum : mg "sum" = none
  all : mg "all" = none
  tuple : mg "tuple" = none
  list : mg "list" = none
  repr : mg "repr" = none
  isinstance : mg "isinstance" = none
  range : mg "range" = none
  enumerate : mg "enumerate" = none
  int : mg "int" = none
  bool : mg "bool" = none
end M2
set_option Elab.async false
set_option linter.all false
set_option maxRecDepth 100000
set_option maxHeartbeats 4000000
namespace M2
open PySem PySem.Spec PyProof.Rows L2
open Classical
section
variable {X : Cx} {E : XK}
theorem xv (i : Nat) {x : Str} {pos : Pos} (hN : X.N[i]? = some x := by rfl) (hv : Vis X.env.scope x := by first | exact Or.inl rfl | exact Or.inr (Or.inl rfl) | exact Or.inr (Or.inr rfl)) (hd : (x == ("__debug__" : Str)) = false := by decide)
    (hc : (x == ("__classdict__" : Str)) = false := by decide) : DE X E (.Name x pos) (mVar i) := de_var hN hv hd hc
theorem xg (hN : X.N.Nodup) (i : Nat) {x : Str} {pos : Pos} (hi : X.N[i]? = some x := by rfl) (hx : Loc X.env.scope x := by first | exact Or.inl rfl | exact Or.inr rfl) (hf : X.fn x = true ∨ X.env.scope.names.lookup x = some .local := by first | exact Or.inl rfl | exact Or.inr rfl) : DG X (.Name x pos) [i] (setN i) := dg_name hN hi hx hf
theorem xs (hN : X.N.Nodup) (i : Nat) {x : Str} {e : Expr} {me : MM D} {pos' pos : Pos} (he : DE X E e me) (hi : X.N[i]? = some x := by rfl) (hx : Loc X.env.scope x := by first | exact Or.inl rfl | exact Or.inr rfl) (hs : swapsWith e (some (.Name x pos')) pos.line X.env = pure false := by rfl)
    (hf : X.fn x = true ∨ X.env.scope.names.lookup x = some .local := by first | exact Or.inl rfl | exact Or.inr rfl) : DS1 X E (.Assign [.Name x pos'] e pos) (sAsg me (setN i)) := ds_set hN hi hx he hs hf
end
theorem hu64 {k : Nat} {A : Around} (hr : Room k A) : A.units + 64 < cLine := by have := hr.un; omega
theorem hu66 {k : Nat} {A : Around} (hr : Room k A) : A.units + 66 < cLine := by have := hr.un; omega
theorem ds_never {X : Cx} {E : XK} {s : Stmt} : DS1 X E s sNever := ps_imp ps_never fun D σ H ⟨en, st, φ, re, rs, c, en', st', e, q⟩ => by cases e
/-- the i-th statement of the text's top -/
def topS (i : Nat) : Stmt := PySem.Challenge.pw_codepick_k03_nodes_and_heights.main.body.getD i (.Pass ⟨0, 0, 0, 0⟩)
section
variable {P : Program} {w : World} {K : PySem.W.Frag} {mg : Str → Option Value} {base : Heap}
abbrev s__law_pen : Stmt := topS 21
theorem sc__law_pen : FnScope ["_law_cell_here"] ["_law_cell_here"] (defScope s__law_pen) := ⟨rfl, rfl, rfl, by decide +kernel, rfl, by decide +kernel, by decide +kernel⟩
noncomputable def b__law_pen : MS :=
    (sSeq (sRet (mLst [(mBlt fMax2 (mArgs [(ret (.int 0)), (mOp fSub (mVar 0) (mOp fPow (ret (.int 10)) (ret (.int 18))))])), (mOp fAdd (mOp fMod (mVar 0) (ret (.int 2147483629))) (ret (.int 1))), (ret (.int 0))]))
    sNx)
noncomputable def f__law_pen : FD := runF 1 b__law_pen
theorem g__law_pen (B : Bt mg)   {f : Addr} {fd : FuncData} (F : Fun K "_law_pen" "_law_pen" s__law_pen f fd) : FnG P w K mg base (L2.CX P w) 1 f fd ["_law_cell_here"] (spF K 1 f__law_pen) := by
  refine fng_df F sc__law_pen fun cd A ou s H E hg hr => ?_
  have hu := hu64 hr
  have hu2 := hu66 hr
  exact (dss_cons (ds_ret (de_lst (da_cons (de_blt (call_max2 rfl) cal_max2 rfl B.max PyProof.Rows.boot_max (da_cons de_int (da_cons (de_op op_sub opd_sub (xv 0) (de_op op_pow opd_pow de_int de_int)) da_nil)) (by decide) rfl rfl rfl) (da_cons (de_op op_addA opd_add (de_op op_mod opd_mod (xv 0) de_int) de_int) (da_cons de_int da_nil)))))
    dss_nil)
abbrev s_is_integer : Stmt := topS 5
theorem sc_is_integer : FnScope ["thing"] ["thing"] (defScope s_is_integer) := ⟨rfl, rfl, rfl, by decide +kernel, rfl, by decide +kernel, by decide +kernel⟩
noncomputable def b_is_integer : MS :=
    (sSeq (sRet (mAndV (mBlt fIsi (mArgs [(mVar 0), (ret (.ty "int"))])) (mNotV (mBlt fIsi (mArgs [(mVar 0), (ret (.ty "bool"))])))))
    sNx)
noncomputable def f_is_integer : FD := runF 1 b_is_integer
theorem g_is_integer (B : Bt mg)   {f : Addr} {fd : FuncData} (F : Fun K "is_integer" "is_integer" s_is_integer f fd) : FnG P w K mg base (L2.CX P w) 1 f fd ["thing"] (spF K 1 f_is_integer) := by
  refine fng_df F sc_is_integer fun cd A ou s H E hg hr => ?_
  have hu := hu64 hr
  have hu2 := hu66 hr
  exact (dss_cons (ds_ret (de_and (de_blt call_isi cal_isi rfl B.isinstance (by decide +kernel) (da_cons (xv 0) (da_cons (de_tyn rfl B.int (by decide +kernel) (by decide) rfl) da_nil)) (by decide) rfl rfl rfl) (de_one (de_not (de_blt call_isi cal_isi rfl B.isinstance (by decide +kernel) (da_cons (xv 0) (da_cons (de_tyn rfl B.bool (by decide +kernel) (by decide) rfl) da_nil)) (by decide) rfl rfl rfl)))))
    dss_nil)
abbrev s_is_between : Stmt := topS 6
theorem sc_is_between : FnScope ["thing", "least", "most"] ["thing", "least", "most"] (defScope s_is_between) := ⟨rfl, rfl, rfl, by decide +kernel, rfl, by decide +kernel, by decide +kernel⟩
noncomputable def b_is_between : MS :=
    (sSeq (sRet (mAndV (mCall 1 f_is_integer (mArgs [(mVar 0)])) (mChain fLe fLe (mVar 1) (mVar 0) (mVar 2))))
    sNx)
noncomputable def f_is_between : FD := runF 3 b_is_between
theorem g_is_between (B : Bt mg)  (d_is_integer : Df P w K mg base "is_integer" 1 1 f_is_integer) {f : Addr} {fd : FuncData} (F : Fun K "is_between" "is_between" s_is_between f fd) : FnG P w K mg base (L2.CX P w) 2 f fd ["thing", "least", "most"] (spF K 3 f_is_between) := by
  refine fng_df F sc_is_between fun cd A ou s H E hg hr => ?_
  have hu := hu64 hr
  have hu2 := hu66 hr
  exact (dss_cons (ds_ret (de_and (de_call d_is_integer hg (hr.mono (by decide)) passC rfl (da_cons (xv 0) da_nil) rfl rfl rfl) (de_one (de_chain (op_le) (op_le) opd_le opd_le (xv 1) (xv 0) (xv 2) (by with_unfolding_all rfl)))))
    dss_nil)
abbrev s_is_arities : Stmt := topS 10
theorem sc_is_arities : FnScope ["thing", "arity"] ["thing"] (defScope s_is_arities) := ⟨rfl, rfl, rfl, by decide +kernel, rfl, by decide +kernel, by decide +kernel⟩
noncomputable def b_is_arities : MS :=
    (sSeq (sRet (mAndV (mBlt fIsi (mArgs [(mVar 0), (ret (.ty "tuple"))])) (mAndV (mChain fLe fLe (ret (.int 1)) (mBlt fLen (mArgs [(mVar 0)])) (ret (.int 6))) (mBlt fAll (mArgs [(mLc (mIter (mVar 0)) [1] (setN 1) (ret true) (mCall 3 f_is_between (mArgs [(mVar 1), (ret (.int 0)), (ret (.int 2))])))])))))
    sNx)
noncomputable def f_is_arities : FD := runF 2 b_is_arities
theorem g_is_arities (B : Bt mg) (c_MOST_ARGUMENTS : ∃ t, mg "MOST_ARGUMENTS" = some (.int 2 t)) (c_MOST_OPERATORS : ∃ t, mg "MOST_OPERATORS" = some (.int 6 t)) (d_is_between : Df P w K mg base "is_between" 2 3 f_is_between) {f : Addr} {fd : FuncData} (F : Fun K "is_arities" "is_arities" s_is_arities f fd) : FnG P w K mg base (L2.CX P w) 3 f fd ["thing"] (spF K 1 f_is_arities) := by
  refine fng_df F sc_is_arities fun cd A ou s H E hg hr => ?_
  have hu := hu64 hr
  have hu2 := hu66 hr
  exact (dss_cons (ds_ret (de_and (de_blt call_isi cal_isi rfl B.isinstance (by decide +kernel) (da_cons (xv 0) (da_cons (de_tyn rfl B.tuple (by decide +kernel) (by decide) rfl) da_nil)) (by decide) rfl rfl rfl) (de_and (de_chain (op_le) (op_le) opd_le opd_le de_int (de_blt call_len_seq cal_len rfl B.len PySem.boot_len (da_cons (xv 0) da_nil) (by decide) rfl rfl rfl) (de_glob rfl c_MOST_OPERATORS rfl) (by with_unfolding_all rfl)) (de_one (de_blt (cr_all rfl) cal_all rfl B.all (by decide +kernel) (da_cons (de_lc (own := [("arity", 1)]) rfl sc_is_arities.nd (di_seq (xv 0)) (blkOk_by (N := ["thing", "arity"]) (sc := defScope s_is_arities) (by decide +kernel)) (fun _ _ _ _ _ => (xg sc_is_arities.nd 1)) (fun _ _ _ _ _ => dts_nil) (fun _ _ _ _ _ => (de_call d_is_between hg (hr.mono (by decide)) passL rfl (da_cons (xv 1) (da_cons de_int (da_cons (de_glob rfl c_MOST_ARGUMENTS rfl) da_nil))) rfl rfl rfl)) (by intro _; rfl) (by decide)) da_nil) (by decide) rfl rfl rfl)))))
    dss_nil)
abbrev s_need_arities : Stmt := topS 13
theorem sc_need_arities : FnScope ["arities"] ["arities"] (defScope s_need_arities) := ⟨rfl, rfl, rfl, by decide +kernel, rfl, by decide +kernel, by decide +kernel⟩
noncomputable def b_need_arities : MS :=
    (sSeq (sIf (mNot (mTru (mCall 1 f_is_arities (mArgs [(mVar 0)])))) (sSeq sNever
    sNx) sNx)
    sNx)
noncomputable def f_need_arities : FD := runF 1 b_need_arities
theorem g_need_arities (B : Bt mg)  (d_is_arities : Df P w K mg base "is_arities" 3 1 f_is_arities) {f : Addr} {fd : FuncData} (F : Fun K "need_arities" "need_arities" s_need_arities f fd) : FnG P w K mg base (L2.CX P w) 4 f fd ["arities"] (spF K 1 f_need_arities) := by
  refine fng_df F sc_need_arities fun cd A ou s H E hg hr => ?_
  have hu := hu64 hr
  have hu2 := hu66 hr
  exact (dss_cons (ds_if (dt_not (dt_tru (de_call d_is_arities hg (hr.mono (by decide)) passC rfl (da_cons (xv 0) da_nil) rfl rfl rfl) fun _ => rfl)) (dss_cons ds_never
    dss_nil) dss_nil)
    dss_nil)
abbrev s_is_operator : Stmt := topS 11
theorem sc_is_operator : FnScope ["arities", "thing"] ["arities", "thing"] (defScope s_is_operator) := ⟨rfl, rfl, rfl, by decide +kernel, rfl, by decide +kernel, by decide +kernel⟩
noncomputable def b_is_operator : MS :=
    (sSeq (sRet (mCall 3 f_is_between (mArgs [(mVar 1), (ret (.int 0)), (mOp fSub (mBlt fLen (mArgs [(mVar 0)])) (ret (.int 1)))])))
    sNx)
noncomputable def f_is_operator : FD := runF 2 b_is_operator
theorem g_is_operator (B : Bt mg)  (d_is_between : Df P w K mg base "is_between" 2 3 f_is_between) {f : Addr} {fd : FuncData} (F : Fun K "is_operator" "is_operator" s_is_operator f fd) : FnG P w K mg base (L2.CX P w) 3 f fd ["arities", "thing"] (spF K 2 f_is_operator) := by
  refine fng_df F sc_is_operator fun cd A ou s H E hg hr => ?_
  have hu := hu64 hr
  have hu2 := hu66 hr
  exact (dss_cons (ds_ret (de_call d_is_between hg (hr.mono (by decide)) passC rfl (da_cons (xv 1) (da_cons de_int (da_cons (de_op op_sub opd_sub (de_blt call_len_seq cal_len rfl B.len PySem.boot_len (da_cons (xv 0) da_nil) (by decide) rfl rfl rfl) de_int) da_nil))) rfl rfl rfl))
    dss_nil)
abbrev s_is_node : Stmt := topS 14
theorem sc_is_node : FnScope ["arities", "place", "thing", "part"] ["arities", "place", "thing"] (defScope s_is_node) := ⟨rfl, rfl, rfl, by decide +kernel, rfl, by decide +kernel, by decide +kernel⟩
noncomputable def b_is_node : MS :=
    (sSeq (sRet (mAndV (mBlt fIsi (mArgs [(mVar 2), (ret (.ty "tuple"))])) (mAndV (mOp fGt (mBlt fLen (mArgs [(mVar 2)])) (ret (.int 0))) (mAndV (mCall 2 f_is_operator (mArgs [(mVar 0), (mOp fIx (mVar 2) (ret (.int 0)))])) (mAndV (mOp fEqA (mBlt fLen (mArgs [(mVar 2)])) (mOp fAdd (ret (.int 1)) (mOp fIx (mVar 0) (mOp fIx (mVar 2) (ret (.int 0)))))) (mBlt fAll (mArgs [(mLc (mIter (mSl (mVar 2) (some (ret (.int 1))) none)) [3] (setN 3) (ret true) (mCall 3 f_is_between (mArgs [(mVar 3), (ret (.int 0)), (mOp fSub (mVar 1) (ret (.int 1)))])))])))))))
    sNx)
noncomputable def f_is_node : FD := runF 4 b_is_node
theorem g_is_node (B : Bt mg)  (d_is_operator : Df P w K mg base "is_operator" 3 2 f_is_operator) (d_is_between : Df P w K mg base "is_between" 2 3 f_is_between) {f : Addr} {fd : FuncData} (F : Fun K "is_node" "is_node" s_is_node f fd) : FnG P w K mg base (L2.CX P w) 4 f fd ["arities", "place", "thing"] (spF K 3 f_is_node) := by
  refine fng_df F sc_is_node fun cd A ou s H E hg hr => ?_
  have hu := hu64 hr
  have hu2 := hu66 hr
  exact (dss_cons (ds_ret (de_and (de_blt call_isi cal_isi rfl B.isinstance (by decide +kernel) (da_cons (xv 2) (da_cons (de_tyn rfl B.tuple (by decide +kernel) (by decide) rfl) da_nil)) (by decide) rfl rfl rfl) (de_and (de_cmp (op_gt) opd_gt (de_blt call_len_seq cal_len rfl B.len PySem.boot_len (da_cons (xv 2) da_nil) (by decide) rfl rfl rfl) de_int (nomark _)) (de_and (de_call d_is_operator hg (hr.mono (by decide)) passC rfl (da_cons (xv 0) (da_cons (de_ix (xv 2) de_int fun _ _ => rfl) da_nil)) rfl rfl rfl) (de_and (de_cmp (op_eqA hu) opd_eqA (de_blt call_len_seq cal_len rfl B.len PySem.boot_len (da_cons (xv 2) da_nil) (by decide) rfl rfl rfl) (de_op op_addA opd_add de_int (de_ix (xv 0) (de_ix (xv 2) de_int fun _ _ => rfl) fun _ _ => rfl)) (nomark _)) (de_one (de_blt (cr_all rfl) cal_all rfl B.all (by decide +kernel) (da_cons (de_lc (own := [("part", 3)]) rfl sc_is_node.nd (di_seq (de_sl (xv 2) (do_some de_int) do_none)) (blkOk_by (N := ["arities", "place", "thing", "part"]) (sc := defScope s_is_node) (by decide +kernel)) (fun _ _ _ _ _ => (xg sc_is_node.nd 3)) (fun _ _ _ _ _ => dts_nil) (fun _ _ _ _ _ => (de_call d_is_between hg (hr.mono (by decide)) passL rfl (da_cons (xv 3) (da_cons de_int (da_cons (de_op op_sub opd_sub (xv 1) de_int) da_nil))) rfl rfl rfl)) (by intro _; rfl) (by decide)) da_nil) (by decide) rfl rfl rfl)))))))
    dss_nil)
abbrev s_is_tree : Stmt := topS 15
theorem sc_is_tree : FnScope ["arities", "thing", "place", "node"] ["arities", "thing"] (defScope s_is_tree) := ⟨rfl, rfl, rfl, by decide +kernel, rfl, by decide +kernel, by decide +kernel⟩
noncomputable def b_is_tree : MS :=
    (sSeq (sExpr (mCall 1 f_need_arities (mArgs [(mVar 0)])))
    (sSeq (sRet (mAndV (mBlt fIsi (mArgs [(mVar 1), (ret (.ty "tuple"))])) (mAndV (mOp fGt (mBlt fLen (mArgs [(mVar 1)])) (ret (.int 0))) (mBlt fAll (mArgs [(mLc (mEnum (mVar 1)) [2, 3] (setTup 2 [(setN 2), (setN 3)]) (ret true) (mCall 3 f_is_node (mArgs [(mVar 0), (mVar 2), (mVar 3)])))])))))
    sNx))
noncomputable def f_is_tree : FD := runF 4 b_is_tree
theorem g_is_tree (B : Bt mg)  (d_need_arities : Df P w K mg base "need_arities" 4 1 f_need_arities) (d_is_node : Df P w K mg base "is_node" 4 3 f_is_node) {f : Addr} {fd : FuncData} (F : Fun K "is_tree" "is_tree" s_is_tree f fd) : FnG P w K mg base (L2.CX P w) 5 f fd ["arities", "thing"] (spF K 2 f_is_tree) := by
  refine fng_df F sc_is_tree fun cd A ou s H E hg hr => ?_
  have hu := hu64 hr
  have hu2 := hu66 hr
  exact (dss_cons (ds_expr (de_call d_need_arities hg (hr.mono (by decide)) passC rfl (da_cons (xv 0) da_nil) rfl rfl rfl) rfl)
    (dss_cons (ds_ret (de_and (de_blt call_isi cal_isi rfl B.isinstance (by decide +kernel) (da_cons (xv 1) (da_cons (de_tyn rfl B.tuple (by decide +kernel) (by decide) rfl) da_nil)) (by decide) rfl rfl rfl) (de_and (de_cmp (op_gt) opd_gt (de_blt call_len_seq cal_len rfl B.len PySem.boot_len (da_cons (xv 1) da_nil) (by decide) rfl rfl rfl) de_int (nomark _)) (de_one (de_blt (cr_all rfl) cal_all rfl B.all (by decide +kernel) (da_cons (de_lc (own := [("place", 2), ("node", 3)]) rfl sc_is_tree.nd (di_enumT rfl B.enumerate (da_cons (xv 1) da_nil) rfl) (blkOk_by (N := ["arities", "thing", "place", "node"]) (sc := defScope s_is_tree) (by decide +kernel)) (fun _ _ _ _ _ => (dg_tup rfl (dgs_cons (xg sc_is_tree.nd 2) (dgs_cons (xg sc_is_tree.nd 3) dgs_nil)) rfl rfl)) (fun _ _ _ _ _ => dts_nil) (fun _ _ _ _ _ => (de_call d_is_node hg (hr.mono (by decide)) passL rfl (da_cons (xv 0) (da_cons (xv 2) (da_cons (xv 3) da_nil))) rfl rfl rfl)) (by intro _; rfl) (by decide)) da_nil) (by decide) rfl rfl rfl)))))
    dss_nil))
abbrev s_need_tree : Stmt := topS 16
theorem sc_need_tree : FnScope ["arities", "tree"] ["arities", "tree"] (defScope s_need_tree) := ⟨rfl, rfl, rfl, by decide +kernel, rfl, by decide +kernel, by decide +kernel⟩
noncomputable def b_need_tree : MS :=
    (sSeq (sIf (mNot (mTru (mCall 2 f_is_tree (mArgs [(mVar 0), (mVar 1)])))) (sSeq sNever
    sNx) sNx)
    sNx)
noncomputable def f_need_tree : FD := runF 2 b_need_tree
theorem g_need_tree (B : Bt mg)  (d_is_tree : Df P w K mg base "is_tree" 5 2 f_is_tree) {f : Addr} {fd : FuncData} (F : Fun K "need_tree" "need_tree" s_need_tree f fd) : FnG P w K mg base (L2.CX P w) 6 f fd ["arities", "tree"] (spF K 2 f_need_tree) := by
  refine fng_df F sc_need_tree fun cd A ou s H E hg hr => ?_
  have hu := hu64 hr
  have hu2 := hu66 hr
  exact (dss_cons (ds_if (dt_not (dt_tru (de_call d_is_tree hg (hr.mono (by decide)) passC rfl (da_cons (xv 0) (da_cons (xv 1) da_nil)) rfl rfl rfl) fun _ => rfl)) (dss_cons ds_never
    dss_nil) dss_nil)
    dss_nil)
abbrev s_nodes : Stmt := topS 17
theorem sc_nodes : FnScope ["arities", "tree", "counts", "node", "part"] ["arities", "tree"] (defScope s_nodes) := ⟨rfl, rfl, rfl, by decide +kernel, rfl, by decide +kernel, by decide +kernel⟩
noncomputable def b_nodes : MS :=
    (sSeq (sExpr (mCall 2 f_need_tree (mArgs [(mVar 0), (mVar 1)])))
    (sSeq (sAsg (mLst []) (setN 2))
    (sSeq (sFor (mIter (mVar 1)) (setN 3) (sSeq (sExpr (mApp (mVar 2) (mOp fAdd (ret (.int 1)) (mBlt fSum (mArgs [(mLc (mIter (mSl (mVar 3) (some (ret (.int 1))) none)) [4] (setN 4) (ret true) (mOp fIx (mVar 2) (mVar 4)))])))))
    sNx))
    (sSeq (sRet (mOp fIx (mVar 2) (mNeg (ret (.int 1)))))
    sNx))))
noncomputable def f_nodes : FD := runF 5 b_nodes
theorem g_nodes (B : Bt mg)  (d_need_tree : Df P w K mg base "need_tree" 6 2 f_need_tree) {f : Addr} {fd : FuncData} (F : Fun K "nodes" "nodes" s_nodes f fd) : FnG P w K mg base (L2.CX P w) 7 f fd ["arities", "tree"] (spF K 2 f_nodes) := by
  refine fng_df F sc_nodes fun cd A ou s H E hg hr => ?_
  have hu := hu64 hr
  have hu2 := hu66 hr
  exact (dss_cons (ds_expr (de_call d_need_tree hg (hr.mono (by decide)) passC rfl (da_cons (xv 0) (da_cons (xv 1) da_nil)) rfl rfl rfl) rfl)
    (dss_cons (xs sc_nodes.nd 2 (de_lst da_nil))
    (dss_cons (ds_for ownC rfl (di_seq (xv 1)) (xg sc_nodes.nd 3) (dss_cons (ds_expr (de_app (xv 2) (da_cons (de_op op_addA opd_add de_int (de_blt (cr_sum rfl) cal_sum rfl B.sum (by decide +kernel) (da_cons (de_lc (own := [("part", 4)]) rfl sc_nodes.nd (di_seq (de_sl (xv 3) (do_some de_int) do_none)) (blkOk_by (N := ["arities", "tree", "counts", "node", "part"]) (sc := defScope s_nodes) (by decide +kernel)) (fun _ _ _ _ _ => (xg sc_nodes.nd 4)) (fun _ _ _ _ _ => dts_nil) (fun _ _ _ _ _ => (de_ix (xv 2) (xv 4) fun _ _ => rfl)) (by intro _; rfl) (by decide)) da_nil) (by decide) rfl rfl rfl)) da_nil) fun ho ha => pe_bm PySem.F.plainAttrs_list PySem.F.slot_list_append PySem.F.type_list_append mt_append ho ha) rfl)
    dss_nil) (by intro _; rfl))
    (dss_cons (ds_ret (de_ix (xv 2) (de_neg de_int) fun _ _ => rfl))
    dss_nil))))
abbrev s_height : Stmt := topS 18
theorem sc_height : FnScope ["arities", "tree", "heights", "node", "part"] ["arities", "tree"] (defScope s_height) := ⟨rfl, rfl, rfl, by decide +kernel, rfl, by decide +kernel, by decide +kernel⟩
noncomputable def b_height : MS :=
    (sSeq (sExpr (mCall 2 f_need_tree (mArgs [(mVar 0), (mVar 1)])))
    (sSeq (sAsg (mLst []) (setN 2))
    (sSeq (sFor (mIter (mVar 1)) (setN 3) (sSeq (sExpr (mApp (mVar 2) (mOp fAdd (ret (.int 1)) (mMaxDf (mLc (mIter (mSl (mVar 3) (some (ret (.int 1))) none)) [4] (setN 4) (ret true) (mOp fIx (mVar 2) (mVar 4))) (ret (.int 0))))))
    sNx))
    (sSeq (sRet (mOp fIx (mVar 2) (mNeg (ret (.int 1)))))
    sNx))))
noncomputable def f_height : FD := runF 5 b_height
theorem g_height (B : Bt mg)  (d_need_tree : Df P w K mg base "need_tree" 6 2 f_need_tree) {f : Addr} {fd : FuncData} (F : Fun K "height" "height" s_height f fd) : FnG P w K mg base (L2.CX P w) 7 f fd ["arities", "tree"] (spF K 2 f_height) := by
  refine fng_df F sc_height fun cd A ou s H E hg hr => ?_
  have hu := hu64 hr
  have hu2 := hu66 hr
  exact (dss_cons (ds_expr (de_call d_need_tree hg (hr.mono (by decide)) passC rfl (da_cons (xv 0) (da_cons (xv 1) da_nil)) rfl rfl rfl) rfl)
    (dss_cons (xs sc_height.nd 2 (de_lst da_nil))
    (dss_cons (ds_for ownC rfl (di_seq (xv 1)) (xg sc_height.nd 3) (dss_cons (ds_expr (de_app (xv 2) (da_cons (de_op op_addA opd_add de_int (de_maxDf rfl rfl B.max (de_lc (own := [("part", 4)]) rfl sc_height.nd (di_seq (de_sl (xv 3) (do_some de_int) do_none)) (blkOk_by (N := ["arities", "tree", "heights", "node", "part"]) (sc := defScope s_height) (by decide +kernel)) (fun _ _ _ _ _ => (xg sc_height.nd 4)) (fun _ _ _ _ _ => dts_nil) (fun _ _ _ _ _ => (de_ix (xv 2) (xv 4) fun _ _ => rfl)) (by intro _; rfl) (by decide)) de_int (fun ha hk hc => pe_callBK hc rfl B.max PyProof.Rows.boot_max ha hk) rfl)) da_nil) fun ho ha => pe_bm PySem.F.plainAttrs_list PySem.F.slot_list_append PySem.F.type_list_append mt_append ho ha) rfl)
    dss_nil) (by intro _; rfl))
    (dss_cons (ds_ret (de_ix (xv 2) (de_neg de_int) fun _ _ => rfl))
    dss_nil))))
abbrev s__law_cell : Stmt := topS 20
theorem sc__law_cell : FnScope ["_law_script", "_law_k"] ["_law_script", "_law_k"] (defScope s__law_cell) := ⟨rfl, rfl, rfl, by decide +kernel, rfl, by decide +kernel, by decide +kernel⟩
noncomputable def b__law_cell : MS :=
    (sSeq (sIf (mB (mOp fLt (mVar 1) (mBlt fLen (mArgs [(mVar 0)])))) (sSeq (sRet (mOp fIx (mVar 0) (mVar 1)))
    sNx) sNx)
    (sSeq (sRet (ret (.int 0)))
    sNx))
noncomputable def f__law_cell : FD := runF 2 b__law_cell
theorem g__law_cell (B : Bt mg)   {f : Addr} {fd : FuncData} (F : Fun K "_law_cell" "_law_cell" s__law_cell f fd) : FnG P w K mg base (L2.CX P w) 1 f fd ["_law_script", "_law_k"] (spF K 2 f__law_cell) := by
  refine fng_df F sc__law_cell fun cd A ou s H E hg hr => ?_
  have hu := hu64 hr
  have hu2 := hu66 hr
  exact (dss_cons (ds_if (dt_cmp (op_lt) opd_lt (xv 1) (de_blt call_len_seq cal_len rfl B.len PySem.boot_len (da_cons (xv 0) da_nil) (by decide) rfl rfl rfl) (nomark _)) (dss_cons (ds_ret (de_ix (xv 0) (xv 1) fun _ _ => rfl))
    dss_nil) dss_nil)
    (dss_cons (ds_ret de_int)
    dss_nil))
abbrev s__law_draw : Stmt := topS 22
theorem sc__law_draw : FnScope ["_law_pen_here", "_law_many", "_law_found", "_law_stirred"] ["_law_pen_here", "_law_many"] (defScope s__law_draw) := ⟨rfl, rfl, rfl, by decide +kernel, rfl, by decide +kernel, by decide +kernel⟩
noncomputable def b__law_draw : MS :=
    (sSeq (sIf (mB (mOp fGt (mOp fIx (mVar 0) (ret (.int 0))) (ret (.int 0)))) (sSeq (sAsg (mOp fMod (mOp fIx (mVar 0) (ret (.int 0))) (mVar 1)) (setN 2))
    (sSeq (sPut (mOp fDiv (mOp fIx (mVar 0) (ret (.int 0))) (mVar 1)) (mVar 0) (ret (.int 0)))
    (sSeq (sRet (mVar 2))
    sNx))) sNx)
    (sSeq (sPut (mOp fAdd (mOp fIx (mVar 0) (ret (.int 2))) (ret (.int 1))) (mVar 0) (ret (.int 2)))
    (sSeq (sPut (mOp fMod (mOp fAdd (mOp fAdd (mOp fMul (mOp fIx (mVar 0) (ret (.int 1))) (ret (.int 48271))) (mOp fMul (ret (.int 1009)) (mOp fIx (mVar 0) (ret (.int 2))))) (ret (.int 7))) (ret (.int 2147483647))) (mVar 0) (ret (.int 1)))
    (sSeq (sAsg (mOp fMod (mOp fAdd (mOp fAdd (mOp fMul (mOp fIx (mVar 0) (ret (.int 1))) (mOp fIx (mVar 0) (ret (.int 1)))) (mOp fMul (ret (.int 69621)) (mOp fIx (mVar 0) (ret (.int 1))))) (ret (.int 11))) (ret (.int 2147483629))) (setN 3))
    (sSeq (sAsg (mOp fMod (mOp fAdd (mOp fMul (mVar 3) (mVar 3)) (mOp fMul (ret (.int 40014)) (mVar 3))) (ret (.int 2147483587))) (setN 3))
    (sSeq (sRet (mOp fMod (mOp fDiv (mVar 3) (ret (.int 16))) (mVar 1)))
    sNx))))))
noncomputable def f__law_draw : FD := runF 4 b__law_draw
theorem g__law_draw (B : Bt mg)   {f : Addr} {fd : FuncData} (F : Fun K "_law_draw" "_law_draw" s__law_draw f fd) : FnG P w K mg base (L2.CX P w) 1 f fd ["_law_pen_here", "_law_many"] (spF K 2 f__law_draw) := by
  refine fng_df F sc__law_draw fun cd A ou s H E hg hr => ?_
  have hu := hu64 hr
  have hu2 := hu66 hr
  exact (dss_cons (ds_if (dt_cmp (op_gt) opd_gt (de_ix (xv 0) de_int fun _ _ => rfl) de_int (nomark _)) (dss_cons (xs sc__law_draw.nd 2 (de_op op_mod opd_mod (de_ix (xv 0) de_int fun _ _ => rfl) (xv 1)))
    (dss_cons (ds_put (de_op op_fdivW opd_div (de_ix (xv 0) de_int fun _ _ => rfl) (xv 1)) (xv 0) de_int (fun ho hi => pg_sub ho hi set_list) rfl rfl rfl)
    (dss_cons (ds_ret (xv 2))
    dss_nil))) dss_nil)
    (dss_cons (ds_put (de_op op_addA opd_add (de_ix (xv 0) de_int fun _ _ => rfl) de_int) (xv 0) de_int (fun ho hi => pg_sub ho hi set_list) rfl rfl rfl)
    (dss_cons (ds_put (de_op op_mod opd_mod (de_op op_addA opd_add (de_op op_addA opd_add (de_op op_mulA opd_mul (de_ix (xv 0) de_int fun _ _ => rfl) de_int) (de_op op_mulA opd_mul de_int (de_ix (xv 0) de_int fun _ _ => rfl))) de_int) de_int) (xv 0) de_int (fun ho hi => pg_sub ho hi set_list) rfl rfl rfl)
    (dss_cons (xs sc__law_draw.nd 3 (de_op op_mod opd_mod (de_op op_addA opd_add (de_op op_addA opd_add (de_op op_mulA opd_mul (de_ix (xv 0) de_int fun _ _ => rfl) (de_ix (xv 0) de_int fun _ _ => rfl)) (de_op op_mulA opd_mul de_int (de_ix (xv 0) de_int fun _ _ => rfl))) de_int) de_int))
    (dss_cons (xs sc__law_draw.nd 3 (de_op op_mod opd_mod (de_op op_addA opd_add (de_op op_mulA opd_mul (xv 3) (xv 3)) (de_op op_mulA opd_mul de_int (xv 3))) de_int))
    (dss_cons (ds_ret (de_op op_mod opd_mod (de_op op_fdivW opd_div (xv 3) de_int) (xv 1)))
    dss_nil))))))
abbrev s__law_pick : Stmt := topS 23
theorem sc__law_pick : FnScope ["_law_pen_here", "_law_some"] ["_law_pen_here", "_law_some"] (defScope s__law_pick) := ⟨rfl, rfl, rfl, by decide +kernel, rfl, by decide +kernel, by decide +kernel⟩
noncomputable def b__law_pick : MS :=
    (sSeq (sRet (mOp fIx (mVar 1) (mCall 2 f__law_draw (mArgs [(mVar 0), (mBlt fLen (mArgs [(mVar 1)]))]))))
    sNx)
noncomputable def f__law_pick : FD := runF 2 b__law_pick
theorem g__law_pick (B : Bt mg)  (d__law_draw : Df P w K mg base "_law_draw" 1 2 f__law_draw) {f : Addr} {fd : FuncData} (F : Fun K "_law_pick" "_law_pick" s__law_pick f fd) : FnG P w K mg base (L2.CX P w) 2 f fd ["_law_pen_here", "_law_some"] (spF K 2 f__law_pick) := by
  refine fng_df F sc__law_pick fun cd A ou s H E hg hr => ?_
  have hu := hu64 hr
  have hu2 := hu66 hr
  exact (dss_cons (ds_ret (de_ix (xv 1) (de_call d__law_draw hg (hr.mono (by decide)) passC rfl (da_cons (xv 0) (da_cons (de_blt call_len_seq cal_len rfl B.len PySem.boot_len (da_cons (xv 1) da_nil) (by decide) rfl rfl rfl) da_nil)) rfl rfl rfl) fun _ _ => rfl))
    dss_nil)
abbrev s__law_arities : Stmt := topS 25
theorem sc__law_arities : FnScope ["_law_pen_here", "_law_found", "_law_turn"] ["_law_pen_here"] (defScope s__law_arities) := ⟨rfl, rfl, rfl, by decide +kernel, rfl, by decide +kernel, by decide +kernel⟩
noncomputable def b__law_arities : MS :=
    (sSeq (sAsg (mLc (mRng1 (mCall 2 f__law_draw (mArgs [(mVar 0), (ret (.int 4))]))) [2] (setN 2) (ret true) (mCall 2 f__law_pick (mArgs [(mVar 0), (mLst [(ret (.int 0)), (ret (.int 1)), (ret (.int 2)), (ret (.int 2))])]))) (setN 1))
    (sSeq (sAsg (mOp fAdd (mVar 1) (mOp fMul (mLst [(ret (.int 0))]) (mOp fAdd (ret (.int 1)) (mCall 2 f__law_draw (mArgs [(mVar 0), (ret (.int 2))]))))) (setN 1))
    (sSeq (sRet (mBlt fTuple (mArgs [(mIf (mB (mOp fEqA (mCall 2 f__law_draw (mArgs [(mVar 0), (ret (.int 2))])) (ret (.int 0)))) (mRev (mVar 1)) (mVar 1))])))
    sNx)))
noncomputable def f__law_arities : FD := runF 3 b__law_arities
theorem g__law_arities (B : Bt mg)  (d__law_pick : Df P w K mg base "_law_pick" 2 2 f__law_pick) (d__law_draw : Df P w K mg base "_law_draw" 1 2 f__law_draw) {f : Addr} {fd : FuncData} (F : Fun K "_law_arities" "_law_arities" s__law_arities f fd) : FnG P w K mg base (L2.CX P w) 3 f fd ["_law_pen_here"] (spF K 1 f__law_arities) := by
  refine fng_df F sc__law_arities fun cd A ou s H E hg hr => ?_
  have hu := hu64 hr
  have hu2 := hu66 hr
  exact (dss_cons (ds_setLc (i := 1) (own := [("_law_turn", 2)]) rfl sc__law_arities.nd rfl rfl (sw_true rfl rfl rfl (by decide +kernel)) (di_rng1 rfl B.range (da_cons (de_call d__law_draw hg (hr.mono (by decide)) passC rfl (da_cons (xv 0) (da_cons de_int da_nil)) rfl rfl rfl) da_nil) rfl) (blkOk_by (N := ["_law_pen_here", "_law_found", "_law_turn"]) (sc := defScope s__law_arities) (by decide +kernel)) (fun _ _ _ _ _ => (xg sc__law_arities.nd 2)) (fun _ _ _ _ _ => dts_nil) (fun _ _ _ _ _ => (de_call d__law_pick hg (hr.mono (by decide)) passL rfl (da_cons (xv 0) (da_cons (de_lst (da_cons de_int (da_cons de_int (da_cons de_int (da_cons de_int da_nil))))) da_nil)) rfl rfl rfl)) (by intro _; rfl) (by decide))
    (dss_cons (xs sc__law_arities.nd 1 (de_op op_addA opd_add (xv 1) (de_op op_mulA opd_mul (de_lst (da_cons de_int da_nil)) (de_op op_addA opd_add de_int (de_call d__law_draw hg (hr.mono (by decide)) passC rfl (da_cons (xv 0) (da_cons de_int da_nil)) rfl rfl rfl)))))
    (dss_cons (ds_ret (de_bty call_tuple_of cal_tuple rfl B.tuple (by decide +kernel) (da_cons (de_if (dt_cmp (op_eqA hu) opd_eqA (de_call d__law_draw hg (hr.mono (by decide)) passC rfl (da_cons (xv 0) (da_cons de_int da_nil)) rfl rfl rfl) de_int (nomark _)) (de_rev (xv 1)) (xv 1)) da_nil) (by decide) rfl rfl rfl))
    dss_nil)))
abbrev s__law_written : Stmt := topS 26
theorem sc__law_written : FnScope ["_law_pen_here", "_law_arities_here", "_law_upto", "_law_leaves", "_law_one", "_law_arity", "_law_found", "_law_turn", "_law_near", "_law_parts", "_law_lap"] ["_law_pen_here", "_law_arities_here", "_law_upto"] (defScope s__law_written) := ⟨rfl, rfl, rfl, by decide +kernel, rfl, by decide +kernel, by decide +kernel⟩
noncomputable def b__law_written : MS :=
    (sSeq (sAsg (mLc (mEnum (mVar 1)) [4, 5] (setTup 2 [(setN 4), (setN 5)]) (mB (mOp fEqA (mVar 5) (ret (.int 0)))) (mVar 4)) (setN 3))
    (sSeq (sIf (mB (mOp fEqA (mVar 3) (mLst []))) (sSeq (sRet (ret .non))
    sNx) sNx)
    (sSeq (sAsg (mLst [(mTup [(mCall 2 f__law_pick (mArgs [(mVar 0), (mVar 3)]))])]) (setN 6))
    (sSeq (sFor (mRng1 (mCall 2 f__law_draw (mArgs [(mVar 0), (mVar 2)]))) (setN 7) (sSeq (sAsg (mCall 2 f__law_draw (mArgs [(mVar 0), (mBlt fLen (mArgs [(mVar 1)]))])) (setN 4))
    (sSeq (sAsg (mBlt fMax2 (mArgs [(ret (.int 0)), (mOp fSub (mOp fSub (mBlt fLen (mArgs [(mVar 6)])) (ret (.int 1))) (mCall 2 f__law_draw (mArgs [(mVar 0), (ret (.int 3))])))])) (setN 8))
    (sSeq (sAsg (mLc (mRng1 (ret (.int 2))) [10] (setN 10) (ret true) (mOp fIx (mLst [(mVar 8), (mOp fSub (mBlt fLen (mArgs [(mVar 6)])) (ret (.int 1))), (mCall 2 f__law_draw (mArgs [(mVar 0), (mBlt fLen (mArgs [(mVar 6)]))]))]) (mCall 2 f__law_draw (mArgs [(mVar 0), (ret (.int 3))])))) (setN 9))
    (sSeq (sExpr (mApp (mVar 6) (mOp fAdd (mTup [(mVar 4)]) (mBlt fTuple (mArgs [(mSl (mVar 9) none (some (mOp fIx (mVar 1) (mVar 4))))])))))
    sNx)))))
    (sSeq (sRet (mBlt fTuple (mArgs [(mVar 6)])))
    sNx)))))
noncomputable def f__law_written : FD := runF 11 b__law_written
theorem g__law_written (B : Bt mg)  (d__law_draw : Df P w K mg base "_law_draw" 1 2 f__law_draw) (d__law_pick : Df P w K mg base "_law_pick" 2 2 f__law_pick) {f : Addr} {fd : FuncData} (F : Fun K "_law_written" "_law_written" s__law_written f fd) : FnG P w K mg base (L2.CX P w) 3 f fd ["_law_pen_here", "_law_arities_here", "_law_upto"] (spF K 3 f__law_written) := by
  refine fng_df F sc__law_written fun cd A ou s H E hg hr => ?_
  have hu := hu64 hr
  have hu2 := hu66 hr
  exact (dss_cons (ds_setLc (i := 3) (own := [("_law_one", 4), ("_law_arity", 5)]) rfl sc__law_written.nd rfl rfl (sw_true rfl rfl rfl (by decide +kernel)) (di_enumT rfl B.enumerate (da_cons (xv 1) da_nil) rfl) (blkOk_by (N := ["_law_pen_here", "_law_arities_here", "_law_upto", "_law_leaves", "_law_one", "_law_arity", "_law_found", "_law_turn", "_law_near", "_law_parts", "_law_lap"]) (sc := defScope s__law_written) (by decide +kernel)) (fun _ _ _ _ _ => (dg_tup rfl (dgs_cons (xg sc__law_written.nd 4) (dgs_cons (xg sc__law_written.nd 5) dgs_nil)) rfl rfl)) (fun _ _ _ _ _ => (dts_one (dt_cmp (op_eqA hu) opd_eqA (xv 5) de_int (nomark _)))) (fun _ _ _ _ _ => (xv 4)) (by intro _; rfl) (by decide))
    (dss_cons (ds_if (dt_cmp (op_eqA hu) opd_eqA (xv 3) (de_lst da_nil) (nomark _)) (dss_cons (ds_ret de_non)
    dss_nil) dss_nil)
    (dss_cons (xs sc__law_written.nd 6 (de_lst (da_cons (de_tup (da_cons (de_call d__law_pick hg (hr.mono (by decide)) passC rfl (da_cons (xv 0) (da_cons (xv 3) da_nil)) rfl rfl rfl) da_nil)) da_nil)))
    (dss_cons (ds_for ownC rfl (di_rng1 rfl B.range (da_cons (de_call d__law_draw hg (hr.mono (by decide)) passC rfl (da_cons (xv 0) (da_cons (xv 2) da_nil)) rfl rfl rfl) da_nil) rfl) (xg sc__law_written.nd 7) (dss_cons (xs sc__law_written.nd 4 (de_call d__law_draw hg (hr.mono (by decide)) passC rfl (da_cons (xv 0) (da_cons (de_blt call_len_seq cal_len rfl B.len PySem.boot_len (da_cons (xv 1) da_nil) (by decide) rfl rfl rfl) da_nil)) rfl rfl rfl))
    (dss_cons (xs sc__law_written.nd 8 (de_blt (call_max2 rfl) cal_max2 rfl B.max PyProof.Rows.boot_max (da_cons de_int (da_cons (de_op op_sub opd_sub (de_op op_sub opd_sub (de_blt call_len_seq cal_len rfl B.len PySem.boot_len (da_cons (xv 6) da_nil) (by decide) rfl rfl rfl) de_int) (de_call d__law_draw hg (hr.mono (by decide)) passC rfl (da_cons (xv 0) (da_cons de_int da_nil)) rfl rfl rfl)) da_nil)) (by decide) rfl rfl rfl))
    (dss_cons (ds_setLc (i := 9) (own := [("_law_lap", 10)]) rfl sc__law_written.nd rfl rfl (sw_true rfl rfl rfl (by decide +kernel)) (di_rng1 rfl B.range (da_cons de_int da_nil) rfl) (blkOk_by (N := ["_law_pen_here", "_law_arities_here", "_law_upto", "_law_leaves", "_law_one", "_law_arity", "_law_found", "_law_turn", "_law_near", "_law_parts", "_law_lap"]) (sc := defScope s__law_written) (by decide +kernel)) (fun _ _ _ _ _ => (xg sc__law_written.nd 10)) (fun _ _ _ _ _ => dts_nil) (fun _ _ _ _ _ => (de_ix (de_lst (da_cons (xv 8) (da_cons (de_op op_sub opd_sub (de_blt call_len_seq cal_len rfl B.len PySem.boot_len (da_cons (xv 6) da_nil) (by decide) rfl rfl rfl) de_int) (da_cons (de_call d__law_draw hg (hr.mono (by decide)) passL rfl (da_cons (xv 0) (da_cons (de_blt call_len_seq cal_len rfl B.len PySem.boot_len (da_cons (xv 6) da_nil) (by decide) rfl rfl rfl) da_nil)) rfl rfl rfl) da_nil)))) (de_call d__law_draw hg (hr.mono (by decide)) passL rfl (da_cons (xv 0) (da_cons de_int da_nil)) rfl rfl rfl) fun _ _ => rfl)) (by intro _; rfl) (by decide))
    (dss_cons (ds_expr (de_app (xv 6) (da_cons (de_op op_addA opd_add (de_tup (da_cons (xv 4) da_nil)) (de_bty call_tuple_of cal_tuple rfl B.tuple (by decide +kernel) (da_cons (de_sl (xv 9) do_none (do_some (de_ix (xv 1) (xv 4) fun _ _ => rfl))) da_nil) (by decide) rfl rfl rfl)) da_nil) fun ho ha => pe_bm PySem.F.plainAttrs_list PySem.F.slot_list_append PySem.F.type_list_append mt_append ho ha) rfl)
    dss_nil)))) (by intro _; rfl))
    (dss_cons (ds_ret (de_bty call_tuple_of cal_tuple rfl B.tuple (by decide +kernel) (da_cons (xv 6) da_nil) (by decide) rfl rfl rfl))
    dss_nil)))))
abbrev s__law_due : Stmt := topS 27
theorem sc__law_due : FnScope ["_law_written_here", "_law_many", "_law_far", "_law_one", "_law_part"] ["_law_written_here"] (defScope s__law_due) := ⟨rfl, rfl, rfl, by decide +kernel, rfl, by decide +kernel, by decide +kernel⟩
noncomputable def b__law_due : MS :=
    (sSeq (sAsg (mTup [(mLst []), (mLst [])]) (setTup 2 [(setN 1), (setN 2)]))
    (sSeq (sFor (mIter (mVar 0)) (setN 3) (sSeq (sExpr (mApp (mVar 1) (mOp fAdd (ret (.int 1)) (mBlt fSum (mArgs [(mLc (mIter (mSl (mVar 3) (some (ret (.int 1))) none)) [4] (setN 4) (ret true) (mOp fIx (mVar 1) (mVar 4)))])))))
    (sSeq (sExpr (mApp (mVar 2) (mOp fAdd (mBlt fMaxL (mArgs [(mOp fAdd (mLst [(ret (.int 0))]) (mLc (mIter (mSl (mVar 3) (some (ret (.int 1))) none)) [4] (setN 4) (ret true) (mOp fIx (mVar 2) (mVar 4))))])) (ret (.int 1)))))
    sNx)))
    (sSeq (sRet (mLst [(mOp fIx (mVar 1) (mNeg (ret (.int 1)))), (mOp fIx (mVar 2) (mNeg (ret (.int 1))))]))
    sNx)))
noncomputable def f__law_due : FD := runF 5 b__law_due
theorem g__law_due (B : Bt mg)   {f : Addr} {fd : FuncData} (F : Fun K "_law_due" "_law_due" s__law_due f fd) : FnG P w K mg base (L2.CX P w) 1 f fd ["_law_written_here"] (spF K 1 f__law_due) := by
  refine fng_df F sc__law_due fun cd A ou s H E hg hr => ?_
  have hu := hu64 hr
  have hu2 := hu66 hr
  exact (dss_cons (ds_asg (de_tup (da_cons (de_lst da_nil) (da_cons (de_lst da_nil) da_nil))) (dg_tup rfl (dgs_cons (xg sc__law_due.nd 1) (dgs_cons (xg sc__law_due.nd 2) dgs_nil)) rfl rfl) rfl rfl rfl)
    (dss_cons (ds_for ownC rfl (di_seq (xv 0)) (xg sc__law_due.nd 3) (dss_cons (ds_expr (de_app (xv 1) (da_cons (de_op op_addA opd_add de_int (de_blt (cr_sum rfl) cal_sum rfl B.sum (by decide +kernel) (da_cons (de_lc (own := [("_law_part", 4)]) rfl sc__law_due.nd (di_seq (de_sl (xv 3) (do_some de_int) do_none)) (blkOk_by (N := ["_law_written_here", "_law_many", "_law_far", "_law_one", "_law_part"]) (sc := defScope s__law_due) (by decide +kernel)) (fun _ _ _ _ _ => (xg sc__law_due.nd 4)) (fun _ _ _ _ _ => dts_nil) (fun _ _ _ _ _ => (de_ix (xv 1) (xv 4) fun _ _ => rfl)) (by intro _; rfl) (by decide)) da_nil) (by decide) rfl rfl rfl)) da_nil) fun ho ha => pe_bm PySem.F.plainAttrs_list PySem.F.slot_list_append PySem.F.type_list_append mt_append ho ha) rfl)
    (dss_cons (ds_expr (de_app (xv 2) (da_cons (de_op op_addA opd_add (de_blt (cr_max rfl) cal_maxL rfl B.max PyProof.Rows.boot_max (da_cons (de_op op_addA opd_add (de_lst (da_cons de_int da_nil)) (de_lc (own := [("_law_part", 4)]) rfl sc__law_due.nd (di_seq (de_sl (xv 3) (do_some de_int) do_none)) (blkOk_by (N := ["_law_written_here", "_law_many", "_law_far", "_law_one", "_law_part"]) (sc := defScope s__law_due) (by decide +kernel)) (fun _ _ _ _ _ => (xg sc__law_due.nd 4)) (fun _ _ _ _ _ => dts_nil) (fun _ _ _ _ _ => (de_ix (xv 2) (xv 4) fun _ _ => rfl)) (by intro _; rfl) (by decide))) da_nil) (by decide) rfl rfl rfl) de_int) da_nil) fun ho ha => pe_bm PySem.F.plainAttrs_list PySem.F.slot_list_append PySem.F.type_list_append mt_append ho ha) rfl)
    dss_nil)) (by intro _; rfl))
    (dss_cons (ds_ret (de_lst (da_cons (de_ix (xv 1) (de_neg de_int) fun _ _ => rfl) (da_cons (de_ix (xv 2) (de_neg de_int) fun _ _ => rfl) da_nil))))
    dss_nil)))
abbrev s__law_same : Stmt := topS 24
theorem sc__law_same : FnScope ["_law_found", "_law_due_here"] ["_law_found", "_law_due_here"] (defScope s__law_same) := ⟨rfl, rfl, rfl, by decide +kernel, rfl, by decide +kernel, by decide +kernel⟩
noncomputable def b__law_same : MS :=
    (sSeq (sRet (mOp fEqA (mBlt fRepr (mArgs [(mVar 0)])) (mBlt fRepr (mArgs [(mVar 1)]))))
    sNx)
noncomputable def f__law_same : FD := runF 2 b__law_same
theorem g__law_same (B : Bt mg)   {f : Addr} {fd : FuncData} (F : Fun K "_law_same" "_law_same" s__law_same f fd) : FnG P w K mg base (L2.CX P w) 1 f fd ["_law_found", "_law_due_here"] (spF K 2 f__law_same) := by
  refine fng_df F sc__law_same fun cd A ou s H E hg hr => ?_
  have hu := hu64 hr
  have hu2 := hu66 hr
  exact (dss_cons (ds_ret (de_cmp (op_eqA hu) opd_eqA (de_blt (call_reprD hg hu2) cal_repr rfl B.repr PyProof.Rows.boot_repr (da_cons (xv 0) da_nil) (by decide) rfl rfl rfl) (de_blt (call_reprD hg hu2) cal_repr rfl B.repr PyProof.Rows.boot_repr (da_cons (xv 1) da_nil) (by decide) rfl rfl rfl) (nomark _)))
    dss_nil)
abbrev s_law : Stmt := topS 28
theorem sc_law : FnScope ["_law_script", "_law_full", "_law_at", "_law_k", "_law_pen_here", "_law_lap", "_law_arities_here", "_law_written_here", "_law_kept", "_law_due_here", "_law_turn"] ["_law_script"] (defScope s_law) := ⟨rfl, rfl, rfl, by decide +kernel, rfl, by decide +kernel, by decide +kernel⟩
noncomputable def b_law : MS :=
    (sSeq (sAsg (mOp fAdd (mTup [(mTup [(ret (.int 0))])]) (mBlt fTuple (mArgs [(mLc (mRng1 (ret (.int 99))) [2] (setN 2) (ret true) (mTup [(ret (.int 1)), (mVar 2), (mVar 2)]))]))) (setN 1))
    (sSeq (sIf (mB (mOp fNeA (mLst [(mCall 2 f_nodes (mArgs [(mTup [(ret (.int 0)), (ret (.int 2))]), (mVar 1)])), (mCall 2 f_height (mArgs [(mTup [(ret (.int 0)), (ret (.int 2))]), (mVar 1)]))]) (mLst [(mOp fSub (mOp fMul (mOp fPow (ret (.int 2)) (ret (.int 64))) (mOp fPow (ret (.int 2)) (ret (.int 36)))) (ret (.int 1))), (ret (.int 100))]))) (sSeq (sRet (ret (.bl false)))
    sNx) sNx)
    (sSeq (sFor (mRng1 (mBlt fMax2 (mArgs [(ret (.int 1)), (mBlt fMin2 (mArgs [(mBlt fLen (mArgs [(mVar 0)])), (ret (.int 3))]))]))) (setN 3) (sSeq (sAsg (mCall 1 f__law_pen (mArgs [(mCall 2 f__law_cell (mArgs [(mVar 0), (mVar 3)]))])) (setN 4))
    (sSeq (sFor (mRng1 (ret (.int 14))) (setN 5) (sSeq (sAsg (mCall 1 f__law_arities (mArgs [(mVar 4)])) (setN 6))
    (sSeq (sAsg (mCall 3 f__law_written (mArgs [(mVar 4), (mVar 6), (mOp fIx (mLst [(ret (.int 4)), (ret (.int 12)), (ret (.int 100))]) (mOp fMod (mVar 5) (ret (.int 3))))])) (setN 7))
    (sSeq (sPar 8 9 [(mBlt fRepr (mArgs [(mVar 7)])), (mCall 1 f__law_due (mArgs [(mVar 7)]))])
    (sSeq (sFor (mRng1 (ret (.int 2))) (setN 10) (sSeq (sIf (mNot (mTru (mCall 2 f__law_same (mArgs [(mLst [(mCall 2 f_nodes (mArgs [(mVar 6), (mVar 7)])), (mCall 2 f_height (mArgs [(mVar 6), (mVar 7)]))]), (mVar 9)])))) (sSeq (sRet (ret (.bl false)))
    sNx) sNx)
    sNx))
    (sSeq (sIf (mB (mOp fNeA (mBlt fRepr (mArgs [(mVar 7)])) (mVar 8))) (sSeq (sRet (ret (.bl false)))
    sNx) sNx)
    sNx))))))
    sNx)))
    (sSeq (sRet (ret (.bl true)))
    sNx))))
noncomputable def f_law : FD := runF 11 b_law
theorem g_law (B : Bt mg)  (d__law_pen : Df P w K mg base "_law_pen" 1 1 f__law_pen) (d_nodes : Df P w K mg base "nodes" 7 2 f_nodes) (d_height : Df P w K mg base "height" 7 2 f_height) (d__law_cell : Df P w K mg base "_law_cell" 1 2 f__law_cell) (d__law_arities : Df P w K mg base "_law_arities" 3 1 f__law_arities) (d__law_written : Df P w K mg base "_law_written" 3 3 f__law_written) (d__law_due : Df P w K mg base "_law_due" 1 1 f__law_due) (d__law_same : Df P w K mg base "_law_same" 1 2 f__law_same) {f : Addr} {fd : FuncData} (F : Fun K "law" "law" s_law f fd) : FnG P w K mg base (L2.CX P w) 8 f fd ["_law_script"] (spF K 1 f_law) := by
  refine fng_df F sc_law fun cd A ou s H E hg hr => ?_
  have hu := hu64 hr
  have hu2 := hu66 hr
  exact (dss_cons (xs sc_law.nd 1 (de_op op_addA opd_add (de_tup (da_cons (de_tup (da_cons de_int da_nil)) da_nil)) (de_bty call_tuple_of cal_tuple rfl B.tuple (by decide +kernel) (da_cons (de_lc (own := [("_law_at", 2)]) rfl sc_law.nd (di_rng1 rfl B.range (da_cons de_int da_nil) rfl) (blkOk_by (N := ["_law_script", "_law_full", "_law_at", "_law_k", "_law_pen_here", "_law_lap", "_law_arities_here", "_law_written_here", "_law_kept", "_law_due_here", "_law_turn"]) (sc := defScope s_law) (by decide +kernel)) (fun _ _ _ _ _ => (xg sc_law.nd 2)) (fun _ _ _ _ _ => dts_nil) (fun _ _ _ _ _ => (de_tup (da_cons de_int (da_cons (xv 2) (da_cons (xv 2) da_nil))))) (by intro _; rfl) (by decide)) da_nil) (by decide) rfl rfl rfl)))
    (dss_cons (ds_if (dt_cmp (op_neA hu) opd_neA (de_lst (da_cons (de_call d_nodes hg (hr.mono (by decide)) passC rfl (da_cons (de_tup (da_cons de_int (da_cons de_int da_nil))) (da_cons (xv 1) da_nil)) rfl rfl rfl) (da_cons (de_call d_height hg (hr.mono (by decide)) passC rfl (da_cons (de_tup (da_cons de_int (da_cons de_int da_nil))) (da_cons (xv 1) da_nil)) rfl rfl rfl) da_nil))) (de_lst (da_cons (de_op op_sub opd_sub (de_op op_mulA opd_mul (de_op op_pow opd_pow de_int de_int) (de_op op_pow opd_pow de_int de_int)) de_int) (da_cons de_int da_nil))) (nomark _)) (dss_cons (ds_ret de_bl)
    dss_nil) dss_nil)
    (dss_cons (ds_for ownC rfl (di_rng1 rfl B.range (da_cons (de_blt (call_max2 rfl) cal_max2 rfl B.max PyProof.Rows.boot_max (da_cons de_int (da_cons (de_blt (call_min2 rfl) cal_min2 rfl B.min PyProof.Rows.boot_min (da_cons (de_blt call_len_seq cal_len rfl B.len PySem.boot_len (da_cons (xv 0) da_nil) (by decide) rfl rfl rfl) (da_cons de_int da_nil)) (by decide) rfl rfl rfl) da_nil)) (by decide) rfl rfl rfl) da_nil) rfl) (xg sc_law.nd 3) (dss_cons (xs sc_law.nd 4 (de_call d__law_pen hg (hr.mono (by decide)) passC rfl (da_cons (de_call d__law_cell hg (hr.mono (by decide)) passC rfl (da_cons (xv 0) (da_cons (xv 3) da_nil)) rfl rfl rfl) da_nil) rfl rfl rfl))
    (dss_cons (ds_for ownC rfl (di_rng1 rfl B.range (da_cons de_int da_nil) rfl) (xg sc_law.nd 5) (dss_cons (xs sc_law.nd 6 (de_call d__law_arities hg (hr.mono (by decide)) passC rfl (da_cons (xv 4) da_nil) rfl rfl rfl))
    (dss_cons (xs sc_law.nd 7 (de_call d__law_written hg (hr.mono (by decide)) passC rfl (da_cons (xv 4) (da_cons (xv 6) (da_cons (de_ix (de_lst (da_cons de_int (da_cons de_int (da_cons de_int da_nil)))) (de_op op_mod opd_mod (xv 5) de_int) fun _ _ => rfl) da_nil))) rfl rfl rfl))
    (dss_cons (ds_par rfl sc_law.nd (i := 8) (j := 9) rfl rfl (by decide) rfl rfl (da_cons (de_blt (call_reprD hg hu2) cal_repr rfl B.repr PyProof.Rows.boot_repr (da_cons (xv 7) da_nil) (by decide) rfl rfl rfl) (da_cons (de_call d__law_due hg (hr.mono (by decide)) passC rfl (da_cons (xv 7) da_nil) rfl rfl rfl) da_nil)) (by with_unfolding_all rfl) rfl)
    (dss_cons (ds_for ownC rfl (di_rng1 rfl B.range (da_cons de_int da_nil) rfl) (xg sc_law.nd 10) (dss_cons (ds_if (dt_not (dt_tru (de_call d__law_same hg (hr.mono (by decide)) passC rfl (da_cons (de_lst (da_cons (de_call d_nodes hg (hr.mono (by decide)) passC rfl (da_cons (xv 6) (da_cons (xv 7) da_nil)) rfl rfl rfl) (da_cons (de_call d_height hg (hr.mono (by decide)) passC rfl (da_cons (xv 6) (da_cons (xv 7) da_nil)) rfl rfl rfl) da_nil))) (da_cons (xv 9) da_nil)) rfl rfl rfl) fun _ => rfl)) (dss_cons (ds_ret de_bl)
    dss_nil) dss_nil)
    dss_nil) (by intro _; rfl))
    (dss_cons (ds_if (dt_cmp (op_neA hu) opd_neA (de_blt (call_reprD hg hu2) cal_repr rfl B.repr PyProof.Rows.boot_repr (da_cons (xv 7) da_nil) (by decide) rfl rfl rfl) (xv 8) (nomark _)) (dss_cons (ds_ret de_bl)
    dss_nil) dss_nil)
    dss_nil))))) (by intro _; rfl))
    dss_nil)) (by intro _; rfl))
    (dss_cons (ds_ret de_bl)
    dss_nil))))
end
end M2
set_option Elab.async false
set_option linter.all false
set_option maxRecDepth 100000
set_option maxHeartbeats 4000000
namespace M2
open PySem PySem.Spec PyProof.Rows L2
theorem all_mk {l : PySem.W.OpenLaw} {w : World} {K : PySem.W.Frag} {h : Heap} {mg : Str → Option Value} {fa : Addr} (X : K.In h) (G : h.Ns mainGlobals mg) (hfa : mg "law" = some (.ref fa))
    {f0 : Addr} {od0 an0 : Option Addr} {sl0 : Array (Option Value)} {oc0 kV0 dc0 pm0 cd0 ct0 : Value}
    {f1 : Addr} {od1 an1 : Option Addr} {sl1 : Array (Option Value)} {oc1 kV1 dc1 pm1 cd1 ct1 : Value}
    {f2 : Addr} {od2 an2 : Option Addr} {sl2 : Array (Option Value)} {oc2 kV2 dc2 pm2 cd2 ct2 : Value}
    {f3 : Addr} {od3 an3 : Option Addr} {sl3 : Array (Option Value)} {oc3 kV3 dc3 pm3 cd3 ct3 : Value}
    {f4 : Addr} {od4 an4 : Option Addr} {sl4 : Array (Option Value)} {oc4 kV4 dc4 pm4 cd4 ct4 : Value}
    {f5 : Addr} {od5 an5 : Option Addr} {sl5 : Array (Option Value)} {oc5 kV5 dc5 pm5 cd5 ct5 : Value}
    {f6 : Addr} {od6 an6 : Option Addr} {sl6 : Array (Option Value)} {oc6 kV6 dc6 pm6 cd6 ct6 : Value}
    {f7 : Addr} {od7 an7 : Option Addr} {sl7 : Array (Option Value)} {oc7 kV7 dc7 pm7 cd7 ct7 : Value}
    {f8 : Addr} {od8 an8 : Option Addr} {sl8 : Array (Option Value)} {oc8 kV8 dc8 pm8 cd8 ct8 : Value}
    {f9 : Addr} {od9 an9 : Option Addr} {sl9 : Array (Option Value)} {oc9 kV9 dc9 pm9 cd9 ct9 : Value}
    {f10 : Addr} {od10 an10 : Option Addr} {sl10 : Array (Option Value)} {oc10 kV10 dc10 pm10 cd10 ct10 : Value}
    {f11 : Addr} {od11 an11 : Option Addr} {sl11 : Array (Option Value)} {oc11 kV11 dc11 pm11 cd11 ct11 : Value}
    {f12 : Addr} {od12 an12 : Option Addr} {sl12 : Array (Option Value)} {oc12 kV12 dc12 pm12 cd12 ct12 : Value}
    {f13 : Addr} {od13 an13 : Option Addr} {sl13 : Array (Option Value)} {oc13 kV13 dc13 pm13 cd13 ct13 : Value}
    {f14 : Addr} {od14 an14 : Option Addr} {sl14 : Array (Option Value)} {oc14 kV14 dc14 pm14 cd14 ct14 : Value}
    {f15 : Addr} {od15 an15 : Option Addr} {sl15 : Array (Option Value)} {oc15 kV15 dc15 pm15 cd15 ct15 : Value}
    {f16 : Addr} {od16 an16 : Option Addr} {sl16 : Array (Option Value)} {oc16 kV16 dc16 pm16 cd16 ct16 : Value}
    {f17 : Addr} {od17 an17 : Option Addr} {sl17 : Array (Option Value)} {oc17 kV17 dc17 pm17 cd17 ct17 : Value}
    {f18 : Addr} {od18 an18 : Option Addr} {sl18 : Array (Option Value)} {oc18 kV18 dc18 pm18 cd18 ct18 : Value}
    {t0 : Tok} (e0 : PySem.W.nsIn K mainGlobals "MOST_ARGUMENTS" = some (some (.int 2 t0)))
    {t1 : Tok} (e1 : PySem.W.nsIn K mainGlobals "MOST_OPERATORS" = some (some (.int 6 t1)))
    (a0 : PySem.W.nsIn K mainGlobals "_law_pen" = some (some (.ref f0))) (l0 : K.lookup f0 = some ⟨oc0, od0, .func (PySem.W.fnOf "_law_pen" "_law_pen" (defArgs s__law_pen) (defBody s__law_pen) (defScope s__law_pen) .none kV0 dc0 pm0 an0 cd0 ct0), sl0⟩) (c0 : PySem.W.codeIn K cd0 "_law_pen" = true) (k0 : PySem.W.keepIn K (.ref f0) = true)
    (a1 : PySem.W.nsIn K mainGlobals "is_integer" = some (some (.ref f1))) (l1 : K.lookup f1 = some ⟨oc1, od1, .func (PySem.W.fnOf "is_integer" "is_integer" (defArgs s_is_integer) (defBody s_is_integer) (defScope s_is_integer) .none kV1 dc1 pm1 an1 cd1 ct1), sl1⟩) (c1 : PySem.W.codeIn K cd1 "is_integer" = true) (k1 : PySem.W.keepIn K (.ref f1) = true)
    (a2 : PySem.W.nsIn K mainGlobals "is_between" = some (some (.ref f2))) (l2 : K.lookup f2 = some ⟨oc2, od2, .func (PySem.W.fnOf "is_between" "is_between" (defArgs s_is_between) (defBody s_is_between) (defScope s_is_between) .none kV2 dc2 pm2 an2 cd2 ct2), sl2⟩) (c2 : PySem.W.codeIn K cd2 "is_between" = true) (k2 : PySem.W.keepIn K (.ref f2) = true)
    (a3 : PySem.W.nsIn K mainGlobals "is_arities" = some (some (.ref f3))) (l3 : K.lookup f3 = some ⟨oc3, od3, .func (PySem.W.fnOf "is_arities" "is_arities" (defArgs s_is_arities) (defBody s_is_arities) (defScope s_is_arities) .none kV3 dc3 pm3 an3 cd3 ct3), sl3⟩) (c3 : PySem.W.codeIn K cd3 "is_arities" = true) (k3 : PySem.W.keepIn K (.ref f3) = true)
    (a4 : PySem.W.nsIn K mainGlobals "need_arities" = some (some (.ref f4))) (l4 : K.lookup f4 = some ⟨oc4, od4, .func (PySem.W.fnOf "need_arities" "need_arities" (defArgs s_need_arities) (defBody s_need_arities) (defScope s_need_arities) .none kV4 dc4 pm4 an4 cd4 ct4), sl4⟩) (c4 : PySem.W.codeIn K cd4 "need_arities" = true) (k4 : PySem.W.keepIn K (.ref f4) = true)
    (a5 : PySem.W.nsIn K mainGlobals "is_operator" = some (some (.ref f5))) (l5 : K.lookup f5 = some ⟨oc5, od5, .func (PySem.W.fnOf "is_operator" "is_operator" (defArgs s_is_operator) (defBody s_is_operator) (defScope s_is_operator) .none kV5 dc5 pm5 an5 cd5 ct5), sl5⟩) (c5 : PySem.W.codeIn K cd5 "is_operator" = true) (k5 : PySem.W.keepIn K (.ref f5) = true)
    (a6 : PySem.W.nsIn K mainGlobals "is_node" = some (some (.ref f6))) (l6 : K.lookup f6 = some ⟨oc6, od6, .func (PySem.W.fnOf "is_node" "is_node" (defArgs s_is_node) (defBody s_is_node) (defScope s_is_node) .none kV6 dc6 pm6 an6 cd6 ct6), sl6⟩) (c6 : PySem.W.codeIn K cd6 "is_node" = true) (k6 : PySem.W.keepIn K (.ref f6) = true)
    (a7 : PySem.W.nsIn K mainGlobals "is_tree" = some (some (.ref f7))) (l7 : K.lookup f7 = some ⟨oc7, od7, .func (PySem.W.fnOf "is_tree" "is_tree" (defArgs s_is_tree) (defBody s_is_tree) (defScope s_is_tree) .none kV7 dc7 pm7 an7 cd7 ct7), sl7⟩) (c7 : PySem.W.codeIn K cd7 "is_tree" = true) (k7 : PySem.W.keepIn K (.ref f7) = true)
    (a8 : PySem.W.nsIn K mainGlobals "need_tree" = some (some (.ref f8))) (l8 : K.lookup f8 = some ⟨oc8, od8, .func (PySem.W.fnOf "need_tree" "need_tree" (defArgs s_need_tree) (defBody s_need_tree) (defScope s_need_tree) .none kV8 dc8 pm8 an8 cd8 ct8), sl8⟩) (c8 : PySem.W.codeIn K cd8 "need_tree" = true) (k8 : PySem.W.keepIn K (.ref f8) = true)
    (a9 : PySem.W.nsIn K mainGlobals "nodes" = some (some (.ref f9))) (l9 : K.lookup f9 = some ⟨oc9, od9, .func (PySem.W.fnOf "nodes" "nodes" (defArgs s_nodes) (defBody s_nodes) (defScope s_nodes) .none kV9 dc9 pm9 an9 cd9 ct9), sl9⟩) (c9 : PySem.W.codeIn K cd9 "nodes" = true) (k9 : PySem.W.keepIn K (.ref f9) = true)
    (a10 : PySem.W.nsIn K mainGlobals "height" = some (some (.ref f10))) (l10 : K.lookup f10 = some ⟨oc10, od10, .func (PySem.W.fnOf "height" "height" (defArgs s_height) (defBody s_height) (defScope s_height) .none kV10 dc10 pm10 an10 cd10 ct10), sl10⟩) (c10 : PySem.W.codeIn K cd10 "height" = true) (k10 : PySem.W.keepIn K (.ref f10) = true)
    (a11 : PySem.W.nsIn K mainGlobals "_law_cell" = some (some (.ref f11))) (l11 : K.lookup f11 = some ⟨oc11, od11, .func (PySem.W.fnOf "_law_cell" "_law_cell" (defArgs s__law_cell) (defBody s__law_cell) (defScope s__law_cell) .none kV11 dc11 pm11 an11 cd11 ct11), sl11⟩) (c11 : PySem.W.codeIn K cd11 "_law_cell" = true) (k11 : PySem.W.keepIn K (.ref f11) = true)
    (a12 : PySem.W.nsIn K mainGlobals "_law_draw" = some (some (.ref f12))) (l12 : K.lookup f12 = some ⟨oc12, od12, .func (PySem.W.fnOf "_law_draw" "_law_draw" (defArgs s__law_draw) (defBody s__law_draw) (defScope s__law_draw) .none kV12 dc12 pm12 an12 cd12 ct12), sl12⟩) (c12 : PySem.W.codeIn K cd12 "_law_draw" = true) (k12 : PySem.W.keepIn K (.ref f12) = true)
    (a13 : PySem.W.nsIn K mainGlobals "_law_pick" = some (some (.ref f13))) (l13 : K.lookup f13 = some ⟨oc13, od13, .func (PySem.W.fnOf "_law_pick" "_law_pick" (defArgs s__law_pick) (defBody s__law_pick) (defScope s__law_pick) .none kV13 dc13 pm13 an13 cd13 ct13), sl13⟩) (c13 : PySem.W.codeIn K cd13 "_law_pick" = true) (k13 : PySem.W.keepIn K (.ref f13) = true)
    (a14 : PySem.W.nsIn K mainGlobals "_law_arities" = some (some (.ref f14))) (l14 : K.lookup f14 = some ⟨oc14, od14, .func (PySem.W.fnOf "_law_arities" "_law_arities" (defArgs s__law_arities) (defBody s__law_arities) (defScope s__law_arities) .none kV14 dc14 pm14 an14 cd14 ct14), sl14⟩) (c14 : PySem.W.codeIn K cd14 "_law_arities" = true) (k14 : PySem.W.keepIn K (.ref f14) = true)
    (a15 : PySem.W.nsIn K mainGlobals "_law_written" = some (some (.ref f15))) (l15 : K.lookup f15 = some ⟨oc15, od15, .func (PySem.W.fnOf "_law_written" "_law_written" (defArgs s__law_written) (defBody s__law_written) (defScope s__law_written) .none kV15 dc15 pm15 an15 cd15 ct15), sl15⟩) (c15 : PySem.W.codeIn K cd15 "_law_written" = true) (k15 : PySem.W.keepIn K (.ref f15) = true)
    (a16 : PySem.W.nsIn K mainGlobals "_law_due" = some (some (.ref f16))) (l16 : K.lookup f16 = some ⟨oc16, od16, .func (PySem.W.fnOf "_law_due" "_law_due" (defArgs s__law_due) (defBody s__law_due) (defScope s__law_due) .none kV16 dc16 pm16 an16 cd16 ct16), sl16⟩) (c16 : PySem.W.codeIn K cd16 "_law_due" = true) (k16 : PySem.W.keepIn K (.ref f16) = true)
    (a17 : PySem.W.nsIn K mainGlobals "_law_same" = some (some (.ref f17))) (l17 : K.lookup f17 = some ⟨oc17, od17, .func (PySem.W.fnOf "_law_same" "_law_same" (defArgs s__law_same) (defBody s__law_same) (defScope s__law_same) .none kV17 dc17 pm17 an17 cd17 ct17), sl17⟩) (c17 : PySem.W.codeIn K cd17 "_law_same" = true) (k17 : PySem.W.keepIn K (.ref f17) = true)
    (a18 : PySem.W.nsIn K mainGlobals "law" = some (some (.ref f18))) (l18 : K.lookup f18 = some ⟨oc18, od18, .func (PySem.W.fnOf "law" "law" (defArgs s_law) (defBody s_law) (defScope s_law) .none kV18 dc18 pm18 an18 cd18 ct18), sl18⟩) (c18 : PySem.W.codeIn K cd18 "law" = true) (k18 : PySem.W.keepIn K (.ref f18) = true)
    (z0 : PySem.W.nsIn K mainGlobals "len" = some none)
    (z1 : PySem.W.nsIn K mainGlobals "max" = some none)
    (z2 : PySem.W.nsIn K mainGlobals "min" = some none)
    (z3 : PySem.W.nsIn K mainGlobals "sum" = some none)
    (z4 : PySem.W.nsIn K mainGlobals "all" = some none)
    (z5 : PySem.W.nsIn K mainGlobals "tuple" = some none)
    (z6 : PySem.W.nsIn K mainGlobals "list" = some none)
    (z7 : PySem.W.nsIn K mainGlobals "repr" = some none)
    (z8 : PySem.W.nsIn K mainGlobals "isinstance" = some none)
    (z9 : PySem.W.nsIn K mainGlobals "range" = some none)
    (z10 : PySem.W.nsIn K mainGlobals "enumerate" = some none)
    (z11 : PySem.W.nsIn K mainGlobals "int" = some none)
    (z12 : PySem.W.nsIn K mainGlobals "bool" = some none)
    : ∃ fd : FuncData, (∀ (s : Shared) (v : Value), BindsTo s fd ⟨[v], []⟩ [("_law_script", v)]) ∧ ∀ base : Heap, K.In base → base.Ns mainGlobals mg → FnG l.prog w K mg base (L2.CX l.prog w) 8 fa fd ["_law_script"] (spF K 1 f_law) := by
  have e := hfa.symm.trans (PySem.W.mg_of X G a18)
  cases e
  have B : Bt mg := ⟨PySem.W.mg_none_of X G z0, PySem.W.mg_none_of X G z1, PySem.W.mg_none_of X G z2, PySem.W.mg_none_of X G z3, PySem.W.mg_none_of X G z4, PySem.W.mg_none_of X G z5, PySem.W.mg_none_of X G z6, PySem.W.mg_none_of X G z7, PySem.W.mg_none_of X G z8, PySem.W.mg_none_of X G z9, PySem.W.mg_none_of X G z10, PySem.W.mg_none_of X G z11, PySem.W.mg_none_of X G z12⟩
  have c_MOST_ARGUMENTS : ∃ t, mg "MOST_ARGUMENTS" = some (.int 2 t) := ⟨_, PySem.W.mg_of X G e0⟩
  have c_MOST_OPERATORS : ∃ t, mg "MOST_OPERATORS" = some (.int 6 t) := ⟨_, PySem.W.mg_of X G e1⟩
  have F0 := fun_mk (st := s__law_pen) l0 c0 k0
  have b0 := F0.binds (ps := ["_law_cell_here"]) fun _ _ _ _ _ _ us hl => match us, hl with | [_], _ => rfl
  have m0 := PySem.W.mg_of X G a0
  have F1 := fun_mk (st := s_is_integer) l1 c1 k1
  have b1 := F1.binds (ps := ["thing"]) fun _ _ _ _ _ _ us hl => match us, hl with | [_], _ => rfl
  have m1 := PySem.W.mg_of X G a1
  have F2 := fun_mk (st := s_is_between) l2 c2 k2
  have b2 := F2.binds (ps := ["thing", "least", "most"]) fun _ _ _ _ _ _ us hl => match us, hl with | [_, _, _], _ => rfl
  have m2 := PySem.W.mg_of X G a2
  have F3 := fun_mk (st := s_is_arities) l3 c3 k3
  have b3 := F3.binds (ps := ["thing"]) fun _ _ _ _ _ _ us hl => match us, hl with | [_], _ => rfl
  have m3 := PySem.W.mg_of X G a3
  have F4 := fun_mk (st := s_need_arities) l4 c4 k4
  have b4 := F4.binds (ps := ["arities"]) fun _ _ _ _ _ _ us hl => match us, hl with | [_], _ => rfl
  have m4 := PySem.W.mg_of X G a4
  have F5 := fun_mk (st := s_is_operator) l5 c5 k5
  have b5 := F5.binds (ps := ["arities", "thing"]) fun _ _ _ _ _ _ us hl => match us, hl with | [_, _], _ => rfl
  have m5 := PySem.W.mg_of X G a5
  have F6 := fun_mk (st := s_is_node) l6 c6 k6
  have b6 := F6.binds (ps := ["arities", "place", "thing"]) fun _ _ _ _ _ _ us hl => match us, hl with | [_, _, _], _ => rfl
  have m6 := PySem.W.mg_of X G a6
  have F7 := fun_mk (st := s_is_tree) l7 c7 k7
  have b7 := F7.binds (ps := ["arities", "thing"]) fun _ _ _ _ _ _ us hl => match us, hl with | [_, _], _ => rfl
  have m7 := PySem.W.mg_of X G a7
  have F8 := fun_mk (st := s_need_tree) l8 c8 k8
  have b8 := F8.binds (ps := ["arities", "tree"]) fun _ _ _ _ _ _ us hl => match us, hl with | [_, _], _ => rfl
  have m8 := PySem.W.mg_of X G a8
  have F9 := fun_mk (st := s_nodes) l9 c9 k9
  have b9 := F9.binds (ps := ["arities", "tree"]) fun _ _ _ _ _ _ us hl => match us, hl with | [_, _], _ => rfl
  have m9 := PySem.W.mg_of X G a9
  have F10 := fun_mk (st := s_height) l10 c10 k10
  have b10 := F10.binds (ps := ["arities", "tree"]) fun _ _ _ _ _ _ us hl => match us, hl with | [_, _], _ => rfl
  have m10 := PySem.W.mg_of X G a10
  have F11 := fun_mk (st := s__law_cell) l11 c11 k11
  have b11 := F11.binds (ps := ["_law_script", "_law_k"]) fun _ _ _ _ _ _ us hl => match us, hl with | [_, _], _ => rfl
  have m11 := PySem.W.mg_of X G a11
  have F12 := fun_mk (st := s__law_draw) l12 c12 k12
  have b12 := F12.binds (ps := ["_law_pen_here", "_law_many"]) fun _ _ _ _ _ _ us hl => match us, hl with | [_, _], _ => rfl
  have m12 := PySem.W.mg_of X G a12
  have F13 := fun_mk (st := s__law_pick) l13 c13 k13
  have b13 := F13.binds (ps := ["_law_pen_here", "_law_some"]) fun _ _ _ _ _ _ us hl => match us, hl with | [_, _], _ => rfl
  have m13 := PySem.W.mg_of X G a13
  have F14 := fun_mk (st := s__law_arities) l14 c14 k14
  have b14 := F14.binds (ps := ["_law_pen_here"]) fun _ _ _ _ _ _ us hl => match us, hl with | [_], _ => rfl
  have m14 := PySem.W.mg_of X G a14
  have F15 := fun_mk (st := s__law_written) l15 c15 k15
  have b15 := F15.binds (ps := ["_law_pen_here", "_law_arities_here", "_law_upto"]) fun _ _ _ _ _ _ us hl => match us, hl with | [_, _, _], _ => rfl
  have m15 := PySem.W.mg_of X G a15
  have F16 := fun_mk (st := s__law_due) l16 c16 k16
  have b16 := F16.binds (ps := ["_law_written_here"]) fun _ _ _ _ _ _ us hl => match us, hl with | [_], _ => rfl
  have m16 := PySem.W.mg_of X G a16
  have F17 := fun_mk (st := s__law_same) l17 c17 k17
  have b17 := F17.binds (ps := ["_law_found", "_law_due_here"]) fun _ _ _ _ _ _ us hl => match us, hl with | [_, _], _ => rfl
  have m17 := PySem.W.mg_of X G a17
  have F18 := fun_mk (st := s_law) l18 c18 k18
  refine ⟨PySem.W.fnOf "law" "law" (defArgs s_law) (defBody s_law) (defScope s_law) .none kV18 dc18 pm18 an18 cd18 ct18, fun s v => .of_eq rfl, fun base _ _ => ?_⟩
  have D__law_pen : Df l.prog w K mg base "_law_pen" 1 1 f__law_pen := ⟨_, _, _, m0, k0, b0, g__law_pen B   F0⟩
  have D_is_integer : Df l.prog w K mg base "is_integer" 1 1 f_is_integer := ⟨_, _, _, m1, k1, b1, g_is_integer B   F1⟩
  have D_is_between : Df l.prog w K mg base "is_between" 2 3 f_is_between := ⟨_, _, _, m2, k2, b2, g_is_between B  D_is_integer F2⟩
  have D_is_arities : Df l.prog w K mg base "is_arities" 3 1 f_is_arities := ⟨_, _, _, m3, k3, b3, g_is_arities B c_MOST_ARGUMENTS c_MOST_OPERATORS D_is_between F3⟩
  have D_need_arities : Df l.prog w K mg base "need_arities" 4 1 f_need_arities := ⟨_, _, _, m4, k4, b4, g_need_arities B  D_is_arities F4⟩
  have D_is_operator : Df l.prog w K mg base "is_operator" 3 2 f_is_operator := ⟨_, _, _, m5, k5, b5, g_is_operator B  D_is_between F5⟩
  have D_is_node : Df l.prog w K mg base "is_node" 4 3 f_is_node := ⟨_, _, _, m6, k6, b6, g_is_node B  D_is_operator D_is_between F6⟩
  have D_is_tree : Df l.prog w K mg base "is_tree" 5 2 f_is_tree := ⟨_, _, _, m7, k7, b7, g_is_tree B  D_need_arities D_is_node F7⟩
  have D_need_tree : Df l.prog w K mg base "need_tree" 6 2 f_need_tree := ⟨_, _, _, m8, k8, b8, g_need_tree B  D_is_tree F8⟩
  have D_nodes : Df l.prog w K mg base "nodes" 7 2 f_nodes := ⟨_, _, _, m9, k9, b9, g_nodes B  D_need_tree F9⟩
  have D_height : Df l.prog w K mg base "height" 7 2 f_height := ⟨_, _, _, m10, k10, b10, g_height B  D_need_tree F10⟩
  have D__law_cell : Df l.prog w K mg base "_law_cell" 1 2 f__law_cell := ⟨_, _, _, m11, k11, b11, g__law_cell B   F11⟩
  have D__law_draw : Df l.prog w K mg base "_law_draw" 1 2 f__law_draw := ⟨_, _, _, m12, k12, b12, g__law_draw B   F12⟩
  have D__law_pick : Df l.prog w K mg base "_law_pick" 2 2 f__law_pick := ⟨_, _, _, m13, k13, b13, g__law_pick B  D__law_draw F13⟩
  have D__law_arities : Df l.prog w K mg base "_law_arities" 3 1 f__law_arities := ⟨_, _, _, m14, k14, b14, g__law_arities B  D__law_pick D__law_draw F14⟩
  have D__law_written : Df l.prog w K mg base "_law_written" 3 3 f__law_written := ⟨_, _, _, m15, k15, b15, g__law_written B  D__law_draw D__law_pick F15⟩
  have D__law_due : Df l.prog w K mg base "_law_due" 1 1 f__law_due := ⟨_, _, _, m16, k16, b16, g__law_due B   F16⟩
  have D__law_same : Df l.prog w K mg base "_law_same" 1 2 f__law_same := ⟨_, _, _, m17, k17, b17, g__law_same B   F17⟩
  exact g_law B  D__law_pen D_nodes D_height D__law_cell D__law_arities D__law_written D__law_due D__law_same F18
theorem lawWalk {l : PySem.W.OpenLaw} {q : Program} {loose : List Str} {XP : (Str → Option Value) → Heap → Prop} {YP : World → Heap → Prop} {d : DefRec} {K : Params → PySem.W.Frag} (hn : l.most = some 63) (noD : d.params.defaults = [])
    (hY : ∀ (w : World) (h : Heap), YP w h → (K w.params).In h) (main : ∀ ns : List Int, ns.length ≤ 63 → ∃ st', f_law [.scr ns] [] = some (.ok (.bl true), st'))
    (F : ∀ (w : World) (mg : Str → Option Value) (fa : Addr) (h : Heap), (K w.params).In h → h.Ns mainGlobals mg → mg d.name = some (.ref fa) →
      ∃ fd : FuncData, (∀ (s : Shared) (u : Value), BindsTo s fd ⟨[u], []⟩ [("_law_script", u)]) ∧ ∀ bs : Heap, (K w.params).In bs → bs.Ns mainGlobals mg → FnG l.prog w (K w.params) mg bs (L2.CX l.prog w) 8 fa fd ["_law_script"] (spF (K w.params) 1 f_law)) :
    PySem.W.WalkO q loose XP YP l.row.toRowW d [] (fun f vs => PySem.call f vs) :=
  walk_G (n := 63) (k := 8) (x := "_law_script") (sp := fun w => spF (K w.params) 1 f_law) hn (by decide) noD ⟨rfl, by decide, by decide⟩ hY F fun w H a ns hl _ hS => by
    obtain ⟨st', e⟩ := main ns hl
    exact ⟨[.scr ns], [], [], _, st', .cons (.scr hS) .nil, ⟨rfl, List.nodup_nil, fun l a ds h => by simp at h⟩, rfl, e, fun φ' H' _ _ v hv => by cases hv; rfl⟩
end M2
set_option Elab.async false
set_option linter.all false
set_option maxRecDepth 100000
set_option maxHeartbeats 1000000
namespace M2
open PySem PySem.Spec PyProof.Rows L2
open Classical
/-! ### running mirrors: each one at an environment and a store -/
theorem kit_ii : kitB "int" "int" = some true := by decide +kernel
theorem kit_ib : kitB "int" "bool" = some false := by decide +kernel
theorem kit_tt : kitB "tuple" "tuple" = some true := by decide +kernel
section
variable {α β : Type} {en : En} {st st1 : Sto}
@[simp] theorem u_bnd (m : MM α) (k : α → MM β) : bnd m k en st = match m en st with
  | none => none
  | some (.error c, st1) => some (.error c, st1)
  | some (.ok a, st1) => k a en st1 := rfl
@[simp] theorem u_ret (a : α) : ret a en st = some (.ok a, st) := rfl
@[simp] theorem u_lft (o : Option α) : lft o en st = o.map fun a => (.ok a, st) := rfl
@[simp] theorem u_stm (f : Sto → Option (α × Sto)) : stm f en st = (f st).map fun p => (.ok p.1, p.2) := rfl
@[simp] theorem u_asg (f : En → Sto → Option α) : asg f en st = (f en st).map fun a => (.ok a, st) := rfl
@[simp] theorem u_mVar (i : Nat) : mVar i en st = ((en[i]?).join).map fun a => (.ok a, st) := rfl
@[simp] theorem u_sNx : sNx en st = some (.nx, en, st) := rfl
@[simp] theorem u_sSeq (a b : MS) : sSeq a b en st = match a en st with
  | some (.nx, en1, st1) => b en1 st1
  | o => o := rfl
@[simp] theorem u_sEx (m : MM α) (k : α → MS) : sEx m k en st = match m en st with
  | none => none
  | some (.error c, st1) => some (.er c, en, st1)
  | some (.ok a, st1) => k a en st1 := rfl
@[simp] theorem u_runF (n : Nat) (m : MS) (ds : List D) : runF n m ds st = match m (envOf n ds) st with
  | some (.nx, _, st') => some (.ok .non, st')
  | some (.rt d, _, st') => some (.ok d, st')
  | some (.er c, _, st') => some (.error c, st')
  | none => none := rfl
@[simp] theorem u_mArgs0 : mArgs [] en st = (ret []) en st := rfl
@[simp] theorem u_mArgs1 (m : MM D) (ms : List (MM D)) : mArgs (m :: ms) en st = (bnd m fun d => bnd (mArgs ms) fun ds => ret (d :: ds)) en st := rfl
@[simp] theorem u_mCall (n : Nat) (F : FD) (m : MM (List D)) : mCall n F m en st = (bnd m fun ds => fun _ st => if ds.length = n then F ds st else none) en st := rfl
@[simp] theorem u_mBlt (f : FDB) (m : MM (List D)) : mBlt f m en st = (bnd m fun ds => stm (f ds)) en st := rfl
@[simp] theorem u_mOp (f : FD2) (a b : MM D) : mOp f a b en st = (bnd a fun x => bnd b fun y => stm (f x y)) en st := rfl
@[simp] theorem u_mB (m : MM D) : mB m en st = (bnd m fun d => lft (boolD d)) en st := rfl
@[simp] theorem u_mTru (m : MM D) : mTru m en st = (bnd m fun d => asg fun _ st => truD d st) en st := rfl
@[simp] theorem u_boolD (b : Bool) : boolD (.bl b) = some b := rfl
@[simp] theorem u_truB (b : Bool) : truD (.bl b) st = some b := rfl
@[simp] theorem u_mAnd (a b : MM Bool) : mAnd a b en st = (bnd a fun c => if c = true then b else ret false) en st := rfl
@[simp] theorem u_mOr (a b : MM Bool) : mOr a b en st = (bnd a fun c => if c = true then ret true else b) en st := rfl
@[simp] theorem u_mNot (a : MM Bool) : mNot a en st = (bnd a fun c => ret (!c)) en st := rfl
@[simp] theorem u_mAndV (a b : MM D) : mAndV a b en st = (bnd a fun d => bnd (lft (boolD d)) fun c => if c = true then b else ret (.bl false)) en st := rfl
@[simp] theorem u_mOrV (a b : MM D) : mOrV a b en st = (bnd a fun d => bnd (lft (boolD d)) fun c => if c = true then ret (.bl true) else b) en st := rfl
@[simp] theorem u_mNotV (a : MM D) : mNotV a en st = (bnd a fun d => bnd (lft (boolD d)) fun c => ret (.bl (!c))) en st := rfl
@[simp] theorem u_mIf (c : MM Bool) (a b : MM D) : mIf c a b en st = (bnd c fun k => if k = true then a else b) en st := rfl
@[simp] theorem u_mChain (f g : FD2) (a b c : MM D) : mChain f g a b c en st = (bnd a fun x => bnd b fun y => bnd (stm (f x y)) fun d => bnd (lft (boolD d)) fun k => if k = true then bnd c fun z => stm (g y z) else ret (.bl false)) en st := rfl
@[simp] theorem u_mNeg (m : MM D) : mNeg m en st = (bnd m fun d => lft (match d with | .int i => some (.int (-i)) | _ => none)) en st := rfl
@[simp] theorem u_mTup (ms : List (MM D)) : mTup ms en st = (bnd (mArgs ms) fun ds => lft (if ds.length < 100000 then some (.tup ds) else none)) en st := rfl
@[simp] theorem u_mLst (ms : List (MM D)) : mLst ms en st = (bnd (mArgs ms) mNewL) en st := rfl
@[simp] theorem u_mNewL (ds : List D) : mNewL ds en st = (stm fun st => if ds.length < 100000 then some (.mu st.length, st ++ [ds]) else none) en st := rfl
@[simp] theorem u_mPart0 : mPart none en st = (ret none) en st := rfl
@[simp] theorem u_mPart1 (m : MM D) : mPart (some m) en st = (bnd m fun d => lft (match d with | .int i => some (some i) | _ => none)) en st := rfl
@[simp] theorem u_mSl (m : MM D) (lo hi : Option (MM D)) : mSl m lo hi en st = (bnd m fun d => bnd (mPart lo) fun l => bnd (mPart hi) fun h => stm (fSl d l h)) en st := rfl
@[simp] theorem u_mRev (m : MM D) : mRev m en st = (bnd m fun d => stm (fRev d)) en st := rfl
@[simp] theorem u_mIter (m : MM D) : mIter m en st = (bnd m fun d => asg fun _ st => iterD d st) en st := rfl
@[simp] theorem u_mMaxDf (m md : MM D) : mMaxDf m md en st = (bnd (mArgs [m]) fun ds => bnd (mArgs [md]) fun es => stm (fMaxDf ds es)) en st := rfl
@[simp] theorem u_sAsg (m : MM D) (f : SetE) : sAsg m f en st = (sEx m fun d => fun en st => (f d en).map fun en' => (.nx, en', st)) en st := rfl
@[simp] theorem u_sExpr (m : MM D) : sExpr m en st = (sEx m fun _ => sNx) en st := rfl
@[simp] theorem u_sRet (m : MM D) : sRet m en st = (sEx m fun d => fun en st => some (.rt d, en, st)) en st := rfl
@[simp] theorem u_sIf (c : MM Bool) (a b : MS) : sIf c a b en st = (sEx c fun k => if k = true then a else b) en st := rfl
@[simp] theorem u_sFor (mi : MM IT) (set : SetE) (body : MS) : sFor mi set body en st = (sEx mi fun it => sLoop it set body it.items) en st := rfl
@[simp] theorem u_sPar (i j : Nat) (ms : List (MM D)) : sPar i j ms en st = (sEx (mArgs ms) fun ds => fun en st => match ds with
  | [v, w] => if i < en.length ∧ j < en.length then some (.nx, (en.set i (some v)).set j (some w), st) else none
  | _ => none) en st := rfl
@[simp] theorem u_sPut (mv ma mi : MM D) : sPut mv ma mi en st = (sEx mv fun v => sEx ma fun a => sEx mi fun i => fun en st => match a, i with
  | .mu l, .int k => (st[l]?).bind fun ds => (ixN ds.length k).map fun j => (.nx, en, st.set l (ds.set j v))
  | _, _ => none) en st := rfl
@[simp] theorem u_mApp (ml mv : MM D) : mApp ml mv en st = (bnd ml fun d => bnd (lft (locD d)) fun l => bnd (mArgs [mv]) fun vs => stm fun st => match vs with
  | [v] => (st[l]?).bind fun ds => if ds.length < 100000 then some (.non, st.set l (ds ++ [v])) else none
  | _ => none) en st := rfl
@[simp] theorem u_ite (c : Prop) [Decidable c] (m m' : MM α) : (if c then m else m') en st = if c then m en st else m' en st := by split <;> rfl
@[simp] theorem u_iteS (c : Prop) [Decidable c] (m m' : MS) : (if c then m else m') en st = if c then m en st else m' en st := by split <;> rfl
@[simp] theorem u_setN (i : Nat) (d : D) : setN i d en = if i < en.length then some (en.set i (some d)) else none := rfl
@[simp] theorem u_isiI (i : Int) : fIsi [.int i, .ty "int"] st = some (.bl true, st) := by simp [fIsi, tyN, kit_ii]
@[simp] theorem u_isiB (i : Int) : fIsi [.int i, .ty "bool"] st = some (.bl false, st) := by simp [fIsi, tyN, kit_ib]
@[simp] theorem u_isiT (ds : List D) : fIsi [.tup ds, .ty "tuple"] st = some (.bl true, st) := by simp [fIsi, tyN, kit_tt]
@[simp] theorem u_lt (i j : Int) : fLt (.int i) (.int j) st = some (.bl (decide (i < j)), st) := rfl
@[simp] theorem u_le (i j : Int) : fLe (.int i) (.int j) st = some (.bl (decide (i ≤ j)), st) := rfl
@[simp] theorem u_gt (i j : Int) : fGt (.int i) (.int j) st = some (.bl (decide (j < i)), st) := rfl
@[simp] theorem u_ge (i j : Int) : fGe (.int i) (.int j) st = some (.bl (decide (j ≤ i)), st) := rfl
@[simp] theorem u_add (i j : Int) : fAdd (.int i) (.int j) st = some (.int (i + j), st) := rfl
@[simp] theorem u_sub (i j : Int) : fSub (.int i) (.int j) st = some (.int (i - j), st) := rfl
theorem u_mod {i j : Int} (h : 0 < j) : fMod (.int i) (.int j) st = some (.int (i % j), st) := by simp [fMod, iop, h]
theorem u_div {i j : Int} (h : 0 < j) (h2 : j.natAbs.log2 < 9000) : fDiv (.int i) (.int j) st = some (.int (i / j), st) := by simp [fDiv, iop, h, h2]
theorem u_mul {i j : Int} (h : i.natAbs.log2 + j.natAbs.log2 < 1000000) : fMul (.int i) (.int j) st = some (.int (i * j), st) := by simp [fMul, h]
@[simp] theorem u_lenT (ds : List D) : fLen [.tup ds] st = some (.int ds.length, st) := rfl
@[simp] theorem u_lenS (ns : List Int) : fLen [.scr ns] st = some (.int ns.length, st) := rfl
@[simp] theorem u_lenM (l : Nat) : fLen [.mu l] st = (st[l]?).map fun xs => (.int xs.length, st) := rfl
@[simp] theorem u_max2 (i j : Int) : fMax2 [.int i, .int j] st = some (.int (if j > i then j else i), st) := rfl
@[simp] theorem u_min2 (i j : Int) : fMin2 [.int i, .int j] st = some (.int (if j < i then j else i), st) := rfl
@[simp] theorem u_ixT (ds : List D) (i : Int) : fIx (.tup ds) (.int i) st = (atI ds i).map fun d => (d, st) := rfl
@[simp] theorem u_ixM (l : Nat) (i : Int) : fIx (.mu l) (.int i) st = (st[l]?).bind fun ds => (atI ds i).map fun d => (d, st) := rfl
@[simp] theorem u_ixS (ns : List Int) (i : Int) : fIx (.scr ns) (.int i) st = (atI ns i).map fun d => (.int d, st) := rfl
@[simp] theorem u_tupT (ds : List D) : fTuple [.tup ds] st = some (.tup ds, st) := rfl
@[simp] theorem u_tupM (l : Nat) : fTuple [.mu l] st = (st[l]?).map fun xs => (.tup xs, st) := rfl
@[simp] theorem u_addT (xs ys : List D) : fAdd (.tup xs) (.tup ys) st = if xs.length + ys.length < 100000 then some (.tup (xs ++ ys), st) else none := rfl
theorem u_addM (l k : Nat) : fAdd (.mu l) (.mu k) st = match st[l]?, st[k]? with
    | some xs, some ys => if xs.length + ys.length < 100000 then some (.mu st.length, st ++ [xs ++ ys]) else none
    | _, _ => none := rfl
end
/-! ### comprehensions -/
/-- one that only lays new lists -/
theorem lc_pure {mi : MM IT} {vs : List Nat} {set : SetE} {elt : MM D} {en : En} {st st1 : Sto} {it : IT} (g : Nat → D) (hi : mi en st = some (.ok it, st1)) (hl : ∀ l, it.loc = some l → st1[l]? = some it.items) (hn : it.items.length ≤ 100000)
    (he : ∀ i d s, it.items[i]? = some d → ∃ en1 j, set d (wipeE en vs) = some en1 ∧ elt en1 (st1 ++ s) = some (.ok (g i), st1 ++ s ++ j)) :
    ∃ j, mLc mi vs set (ret true) elt en st = some (.ok (.mu st1.length), st1 ++ [(List.range it.items.length).map g] ++ j) := by
  have main : ∀ (n i : Nat) (j : Sto), it.items.length - i = n → i ≤ it.items.length → ∃ j2, cLoop it st1.length set (ret true) elt (wipeE en vs) (it.items.drop i) (st1 ++ [(List.range i).map g] ++ j) = some (st1 ++ [(List.range it.items.length).map g] ++ j2) := by
    intro n
    induction n with
    | zero =>
      intro i j h1 h2
      have e : i = it.items.length := by omega
      subst e
      refine ⟨j, ?_⟩
      rw [List.drop_length]
      unfold cLoop
      rw [if_pos]
      intro l hll
      have := hl l hll
      have hlt : l < st1.length := (List.getElem?_eq_some_iff.mp this).1
      rw [List.append_assoc, List.getElem?_append_left hlt]
      exact this
    | succ n ih =>
      intro i j h1 h2
      have hlt : i < it.items.length := by omega
      obtain ⟨en1, j1, e1, e2⟩ := he i it.items[i] ([(List.range i).map g] ++ j) (List.getElem?_eq_getElem hlt)
      obtain ⟨j2, e3⟩ := ih (i + 1) (j ++ j1) (by omega) hlt
      refine ⟨j2, ?_⟩
      rw [List.drop_eq_getElem_cons hlt]
      unfold cLoop
      rw [if_pos]
      · simp only [e1, u_ret]
        rw [List.append_assoc st1 _ j] at *
        rw [e2]
        have a1 : (st1 ++ ([List.map g (List.range i)] ++ j) ++ j1)[st1.length]? = some (List.map g (List.range i)) := by
          rw [List.append_assoc, List.getElem?_append_right (Nat.le_refl _)]; simp
        simp only [a1]
        rw [if_pos (by rw [List.length_map, List.length_range]; omega)]
        have a2 : (st1 ++ ([List.map g (List.range i)] ++ j) ++ j1).set st1.length (List.map g (List.range i) ++ [g i]) = st1 ++ [List.map g (List.range (i + 1))] ++ (j ++ j1) := by
          rw [List.append_assoc, List.set_append_right _ _ (Nat.le_refl _)]
          simp [List.range_succ]
        rw [a2]
        exact e3
      · intro l hll
        have := hl l hll
        have hlt2 : l < st1.length := (List.getElem?_eq_some_iff.mp this).1
        rw [List.append_assoc, List.getElem?_append_left hlt2]
        exact this
  obtain ⟨j, hj⟩ := main _ 0 [] rfl (Nat.zero_le _)
  refine ⟨j, ?_⟩
  unfold mLc
  simp only [u_bnd, hi]
  have hj' : cLoop it st1.length set (ret true) elt (wipeE en vs) it.items (st1 ++ [[]]) = some (st1 ++ [(List.range it.items.length).map g] ++ j) := by simpa using hj
  rw [hj']
  rfl
end M2
set_option Elab.async false
set_option linter.all false
set_option maxRecDepth 100000
set_option maxHeartbeats 1000000
namespace M2
open PySem PySem.Spec PyProof.Rows L2
open Classical
theorem env1 (a : D) : envOf 1 [a] = [some a] := rfl
theorem r_is_integer (i : Int) (st : Sto) : f_is_integer [.int i] st = some (.ok (.bl true), st) := by
  simp [f_is_integer, b_is_integer, envOf]
theorem r_is_between (i a b : Int) (st : Sto) : f_is_between [.int i, .int a, .int b] st = some (.ok (.bl (decide (a ≤ i) && decide (i ≤ b))), st) := by
  by_cases h : a ≤ i <;> simp [f_is_between, b_is_between, envOf, r_is_integer, h]
theorem r_is_operator (as : List Int) (o : Int) (st : Sto) : f_is_operator [.tup (as.map D.int), .int o] st = some (.ok (.bl (decide (0 ≤ o) && decide (o ≤ (as.length : Int) - 1))), st) := by
  simp [f_is_operator, b_is_operator, envOf, r_is_between]
/-- arities that are right -/
def Ar (as : List Int) : Prop := 1 ≤ as.length ∧ as.length ≤ 6 ∧ ∀ a ∈ as, 0 ≤ a ∧ a ≤ 2
theorem r_all {bs : List Bool} {l : Nat} {st : Sto} (h : st[l]? = some (bs.map D.bl)) : fAll [.mu l] st = some (.bl (bs.all fun b => b), st) := by
  simp [fAll, h, blsD_map]
theorem r_allT {α : Type} {xs : List α} {l : Nat} {st : Sto} (h : st[l]? = some (xs.map fun _ => D.bl true)) : fAll [.mu l] st = some (.bl true, st) := by
  have e : xs.map (fun _ => D.bl true) = (xs.map fun _ => true).map D.bl := by rw [List.map_map]; rfl
  rw [e] at h
  rw [r_all h]
  have : ((xs.map fun _ => true).all fun b => b) = true := by simp
  rw [this]
theorem r_is_arities {as : List Int} (h : Ar as) (st : Sto) : ∃ j, f_is_arities [.tup (as.map D.int)] st = some (.ok (.bl true), st ++ j) := by
  obtain ⟨h1, h2, h3⟩ := h
  obtain ⟨j, hj⟩ := lc_pure (mi := mIter (mVar 0)) (vs := [1]) (set := setN 1) (elt := mCall 3 f_is_between (mArgs [(mVar 1), (ret (.int 0)), (ret (.int 2))])) (en := [some (.tup (as.map D.int)), none]) (st := st) (st1 := st)
    (it := ⟨as.map D.int, none⟩) (fun _ => .bl true) (by simp [iterD]) (by simp) (by simp; omega) (fun i d s hd => by
      simp at hd
      obtain ⟨a, ha, rfl⟩ := hd
      have := h3 a (List.mem_of_getElem? ha)
      refine ⟨[some (.tup (as.map D.int)), some (.int a)], [], by simp [wipeE], ?_⟩
      simp [r_is_between, this.1, this.2])
  refine ⟨[(List.range (as.map D.int).length).map fun _ => D.bl true] ++ j, ?_⟩
  have e1 : (decide (1 ≤ (as.length : Int))) = true := by simp; omega
  have e2 : (decide ((as.length : Int) ≤ 6)) = true := by simp; omega
  have ha : fAll [.mu st.length] (st ++ [(List.range (as.map D.int).length).map fun _ => D.bl true] ++ j) = some (.bl true, st ++ [(List.range (as.map D.int).length).map fun _ => D.bl true] ++ j) := r_allT (xs := List.range (as.map D.int).length) (by simp)
  simp only [f_is_arities, b_is_arities, u_runF, envOf]
  simp [e1, e2]
  simp at hj ha
  rw [hj]
  simp [ha]
end M2
set_option Elab.async false
set_option linter.all false
set_option maxRecDepth 100000
set_option maxHeartbeats 1000000
namespace M2
open PySem PySem.Spec PyProof.Rows L2
open Classical
@[simp] theorem u_eqI (a b : Int) (st : Sto) : fEqA (.int a) (.int b) st = some (.bl (decide (a = b)), st) := by
  simp [fEqA, fEq, eqD, dat, PyData.canLay0, PyData.eqv]
  rfl
theorem r_need_arities {as : List Int} (h : Ar as) (st : Sto) : ∃ j, f_need_arities [.tup (as.map D.int)] st = some (.ok .non, st ++ j) := by
  obtain ⟨j, hj⟩ := r_is_arities h st
  exact ⟨j, by simp [f_need_arities, b_need_arities, envOf, hj]⟩
/-- a node as data -/
abbrev Nd := Int × List Int
def nD (n : Nd) : D := .tup (.int n.1 :: n.2.map D.int)
def tD (ns : List Nd) : D := .tup (ns.map nD)
structure Vn (as : List Int) (i : Nat) (n : Nd) : Prop where
  lo : 0 ≤ n.1
  hi : n.1 < as.length
  ar : as[n.1.toNat]? = some (n.2.length : Int)
  ps : ∀ p ∈ n.2, 0 ≤ p ∧ p < (i : Int)
structure Vt (as : List Int) (ns : List Nd) : Prop where
  ne : 0 < ns.length
  few : ns.length ≤ 1000
  at' : ∀ i n, ns[i]? = some n → Vn as i n
theorem ps_few {as : List Int} {i : Nat} {n : Nd} (ha : Ar as) (h : Vn as i n) : n.2.length ≤ 2 := by
  have := ha.2.2 _ (List.mem_of_getElem? h.ar)
  omega
theorem cutD_1 (x : D) (xs : List D) : cutD (x :: xs) (some 1) none = xs := by
  unfold cutD
  rw [show HT.sIx (x :: xs).length 0 (some 1) = min 1 (x :: xs).length from HT.sIx_nat (x :: xs).length 0 1, HT.sIx_none, show min 1 (x :: xs).length = 1 by simp]
  simp
theorem atI_ok {α : Type} {xs : List α} {i : Int} {x : α} (h0 : 0 ≤ i) (h : xs[i.toNat]? = some x) : atI xs i = some x := by
  have hl := (List.getElem?_eq_some_iff.mp h).1
  refine atI_mk (j := i.toNat) ?_ h
  unfold ixN
  rw [if_pos h0, if_pos (by omega)]
@[simp] theorem atI_zero {α : Type} (x : α) (xs : List α) : atI (x :: xs) 0 = some x := atI_ok (Int.le_refl 0) rfl
theorem r_is_node {as : List Int} {i : Nat} {n : Nd} (ha : Ar as) (h : Vn as i n) (st : Sto) : ∃ j, f_is_node [.tup (as.map D.int), .int i, nD n] st = some (.ok (.bl true), st ++ j) := by
  have few := ps_few ha h
  obtain ⟨o, ps⟩ := n
  obtain ⟨h1, h2, h3, h4⟩ := h
  simp only at h1 h2 h3 h4 few
  obtain ⟨j, hj⟩ := lc_pure (mi := mIter (mSl (mVar 2) (some (ret (.int 1))) none)) (vs := [3]) (set := setN 3) (elt := mCall 3 f_is_between (mArgs [(mVar 3), (ret (.int 0)), (mOp fSub (mVar 1) (ret (.int 1)))]))
    (en := [some (.tup (as.map D.int)), some (.int i), some (nD (o, ps)), none]) (st := st) (st1 := st) (it := ⟨ps.map D.int, none⟩) (fun _ => .bl true) (by simp [nD, fSl, cutD_1, iterD]) (by simp) (by simp; omega) (fun k d s hd => by
      simp at hd
      obtain ⟨a, ha, rfl⟩ := hd
      have := h4 a (List.mem_of_getElem? ha)
      refine ⟨[some (.tup (as.map D.int)), some (.int i), some (nD (o, ps)), some (.int a)], [], by simp [wipeE], ?_⟩
      have e : a ≤ (i : Int) - 1 := by omega
      simp [r_is_between, this.1, e])
  refine ⟨[(List.range (ps.map D.int).length).map fun _ => D.bl true] ++ j, ?_⟩
  have hat : atI (as.map D.int) o = some (.int (ps.length : Int)) := atI_ok h1 (by rw [List.getElem?_map, h3]; rfl)
  have e1 : decide (o ≤ (as.length : Int) - 1) = true := by simp; omega
  have hall : fAll [.mu st.length] (st ++ [(List.range (ps.map D.int).length).map fun _ => D.bl true] ++ j) = some (.bl true, st ++ [(List.range (ps.map D.int).length).map fun _ => D.bl true] ++ j) := r_allT (xs := List.range (ps.map D.int).length) (by simp)
  simp only [f_is_node, b_is_node, u_runF, envOf]
  have e2 : (ps.length : Int) + 1 = 1 + (ps.length : Int) := by omega
  have e3 : (0 : Int) < 1 + (ps.length : Int) := by omega
  simp at hj hall
  simp only [nD] at hj ⊢
  simp [r_is_operator, h1, e1, hat, e2, e3, hj, hall]

theorem r_is_tree {as : List Int} {ns : List Nd} (ha : Ar as) (h : Vt as ns) (st : Sto) : ∃ j, f_is_tree [.tup (as.map D.int), tD ns] st = some (.ok (.bl true), st ++ j) := by
  obtain ⟨j0, h0⟩ := r_need_arities ha st
  have nl : (numbered 0 (ns.map nD)).length = ns.length := by rw [numbered_len]; simp
  obtain ⟨j, hj⟩ := lc_pure (mi := mEnum (mVar 1)) (vs := [2, 3]) (set := setTup 2 [(setN 2), (setN 3)]) (elt := mCall 3 f_is_node (mArgs [(mVar 0), (mVar 2), (mVar 3)]))
    (en := [some (.tup (as.map D.int)), some (tD ns), none, none]) (st := st ++ j0) (st1 := st ++ j0) (it := ⟨numbered 0 (ns.map nD), none⟩) (fun _ => .bl true) (by simp [mEnum, tD]) (by simp) (by show _ ≤ _; rw [nl]; have := h.few; omega) (fun k d s hd => by
      replace hd : (numbered 0 (ns.map nD))[k]? = some d := hd
      rw [numbered_get, List.getElem?_map] at hd
      cases hn : ns[k]? with
      | none => rw [hn] at hd; cases hd
      | some n =>
        rw [hn] at hd
        cases hd
        obtain ⟨j1, e1⟩ := r_is_node ha (h.at' k n hn) (st ++ j0 ++ s)
        refine ⟨[some (.tup (as.map D.int)), some (tD ns), some (.int (k : Int)), some (nD n)], j1, by simp [setTup, setT, wipeE], ?_⟩
        simp at e1 ⊢
        simp [e1])
  refine ⟨j0 ++ [(List.range ns.length).map fun _ => D.bl true] ++ j, ?_⟩
  replace hj : mLc (mEnum (mVar 1)) [2, 3] (setTup 2 [(setN 2), (setN 3)]) (ret true) (mCall 3 f_is_node (mArgs [(mVar 0), (mVar 2), (mVar 3)])) [some (.tup (as.map D.int)), some (tD ns), none, none] (st ++ j0) =
    some (.ok (.mu (st ++ j0).length), st ++ j0 ++ [(List.range ns.length).map fun _ => D.bl true] ++ j) := by rw [hj]; show _ = _; simp [nl]
  have hall : fAll [.mu (st ++ j0).length] (st ++ j0 ++ [(List.range ns.length).map fun _ => D.bl true] ++ j) = some (.bl true, st ++ j0 ++ [(List.range ns.length).map fun _ => D.bl true] ++ j) := r_allT (xs := List.range ns.length) (by rw [List.append_assoc, List.getElem?_append_right (Nat.le_refl _)]; simp)
  simp only [f_is_tree, b_is_tree, u_runF, envOf]
  have e3 : (0 : Int) < (ns.length : Int) := by have := h.ne; omega
  simp [tD] at hj hall ⊢
  simp [h0, e3, hj, hall, h.ne]
theorem r_need_tree {as : List Int} {ns : List Nd} (ha : Ar as) (h : Vt as ns) (st : Sto) : ∃ j, f_need_tree [.tup (as.map D.int), tD ns] st = some (.ok .non, st ++ j) := by
  obtain ⟨j, hj⟩ := r_is_tree ha h st
  exact ⟨j, by simp [f_need_tree, b_need_tree, envOf, hj]⟩
end M2
set_option Elab.async false
set_option linter.all false
set_option maxRecDepth 100000
set_option maxHeartbeats 1000000
namespace M2
open PySem PySem.Spec PyProof.Rows L2
open Classical
/-! ### nodes and heights, as folds -/
def runN (f : List Int → List Int → Int) : List Nd → List Int → List Int
  | [], acc => acc
  | n :: r, acc => runN f r (acc ++ [f acc n.2])
def look (acc ps : List Int) : List Int := ps.map fun p => acc.getD p.toNat 0
def fN (acc ps : List Int) : Int := 1 + (look acc ps).sum
def fH (acc ps : List Int) : Int := 1 + ((maxL (look acc ps)).getD 0)
theorem runN_len (f : List Int → List Int → Int) : ∀ (ns : List Nd) (acc : List Int), (runN f ns acc).length = acc.length + ns.length
  | [], _ => rfl
  | n :: r, acc => by
    show (runN f r (acc ++ [f acc n.2])).length = _
    rw [runN_len f r]; simp; omega
def lst (xs : List Int) : Int := xs.getD (xs.length - 1) 0
theorem atI_last {xs : List Int} (h : 0 < xs.length) : atI (xs.map D.int) (-1) = some (.int (lst xs)) := by
  refine atI_mk (j := xs.length - 1) ?_ ?_
  · unfold ixN
    rw [if_neg (by omega), if_pos (by simp; omega)]
    simp; omega
  · rw [List.getElem?_map, List.getElem?_eq_getElem (by omega)]
    simp [lst, List.getD_eq_getElem?_getD, List.getElem?_eq_getElem (show xs.length - 1 < xs.length by omega)]
@[simp] theorem gOk_none (ds : List D) (st : Sto) : gOk ⟨ds, none⟩ st = True := by simp [gOk]
theorem r_sum {l : Nat} {ns : List Int} {st : Sto} (h : st[l]? = some (ns.map D.int)) : fSum [.mu l] st = some (.int ns.sum, st) := by
  simp [fSum, onInts, h, intsD_map]
theorem r_maxDf {l : Nat} {ns : List Int} {st : Sto} (h : st[l]? = some (ns.map D.int)) : fMaxDf [.mu l] [.int 0] st = some (.int ((maxL ns).getD 0), st) := by
  simp only [fMaxDf, h, Option.bind_some, intsD_map, Option.map_some]
  cases maxL ns <;> rfl
/-- a loop that appends f of what is there to the list at l -/
theorem loop_one {set : SetE} {body : MS} {base : Sto} (Ev : Option D → En) (f : List Int → List Int → Int) (hs : ∀ x d, set d (Ev x) = some (Ev (some d))) (V : Nat → Nd → Prop)
    (hb : ∀ (acc : List Int) (n : Nd) (s : Sto), acc.length ≤ 1000 → V acc.length n → ∃ s', body (Ev (some (nD n))) (base ++ [acc.map D.int] ++ s) = some (.nx, Ev (some (nD n)), base ++ [(acc ++ [f acc n.2]).map D.int] ++ s')) :
    ∀ (it : IT) (ns : List Nd) (acc : List Int) (x : Option D) (s : Sto), it.loc = none → acc.length + ns.length ≤ 1000 → (∀ k n, ns[k]? = some n → V (acc.length + k) n) →
      ∃ s' y, sLoop it set body (ns.map nD) (Ev x) (base ++ [acc.map D.int] ++ s) = some (.nx, Ev y, base ++ [(runN f ns acc).map D.int] ++ s') := by
  intro it ns
  have hg : ∀ st, it.loc = none → gOk it st := fun st h l hl => by rw [h] at hl; cases hl
  induction ns with
  | nil =>
    intro acc x s hloc h h2
    refine ⟨s, x, ?_⟩
    show sLoop it set body [] (Ev x) _ = _
    unfold sLoop
    rw [if_pos (hg _ hloc)]; rfl
  | cons n r ih =>
    intro acc x s hloc h h2
    obtain ⟨s1, e1⟩ := hb acc n s (by simp at h; omega) (h2 0 n rfl)
    obtain ⟨s2, y, e2⟩ := ih (acc ++ [f acc n.2]) (some (nD n)) s1 hloc (by simp at h ⊢; omega) (fun k m hm => by
      have := h2 (k + 1) m hm
      rw [show (acc ++ [f acc n.2]).length + k = acc.length + (k + 1) by simp; omega]
      exact this)
    refine ⟨s2, y, ?_⟩
    show sLoop it set body (nD n :: r.map nD) (Ev x) _ = _
    unfold sLoop
    rw [if_pos (hg _ hloc), hs]
    simp only [e1]
    exact e2
theorem part_at {acc : List Int} {p : Int} (h0 : 0 ≤ p) (h : p < (acc.length : Int)) : atI (acc.map D.int) p = some (.int (acc.getD p.toNat 0)) := by
  refine atI_ok h0 ?_
  have : p.toNat < acc.length := by omega
  simp [List.getD_eq_getElem?_getD, List.getElem?_eq_getElem this]
theorem range_look (acc ps : List Int) : (List.range ps.length).map (fun k => D.int (acc.getD (ps.getD k 0).toNat 0)) = (look acc ps).map D.int := by
  apply List.ext_getElem?
  intro k
  rw [List.getElem?_map, List.getElem?_map]
  unfold look
  rw [List.getElem?_map]
  by_cases h : k < ps.length
  · rw [List.getElem?_range h, List.getElem?_eq_getElem h]
    simp [List.getD_eq_getElem?_getD, List.getElem?_eq_getElem h]
  · rw [List.getElem?_eq_none (by simpa using h), List.getElem?_eq_none (by omega : ps.length ≤ k)]; rfl
/-- the parts' values, read off the list at l -/
theorem lc_parts {A T : Option D} {acc : List Int} {n : Nd} {base s : Sto} {m : Nat} (hm : n.2.length ≤ 1000) (h : ∀ p ∈ n.2, 0 ≤ p ∧ p < (acc.length : Int)) :
    ∃ j, mLc (mIter (mSl (mVar 3) (some (ret (.int 1))) none)) [4] (setN 4) (ret true) (mOp fIx (mVar 2) (mVar 4)) [A, T, some (.mu base.length), some (nD n), none] (base ++ [acc.map D.int] ++ s) =
      some (.ok (.mu (base ++ [acc.map D.int] ++ s).length), base ++ [acc.map D.int] ++ s ++ [(look acc n.2).map D.int] ++ j) := by
  obtain ⟨j, hj⟩ := lc_pure (mi := mIter (mSl (mVar 3) (some (ret (.int 1))) none)) (vs := [4]) (set := setN 4) (elt := mOp fIx (mVar 2) (mVar 4)) (en := [A, T, some (.mu base.length), some (nD n), none]) (st := base ++ [acc.map D.int] ++ s) (st1 := base ++ [acc.map D.int] ++ s)
    (it := ⟨n.2.map D.int, none⟩) (fun k => D.int (acc.getD (n.2.getD k 0).toNat 0)) (by simp [nD, fSl, cutD_1, iterD]) (by simp) (by simp; omega) (fun k d s2 hd => by
      simp only [List.getElem?_map] at hd
      cases hk : n.2[k]? with
      | none => rw [hk] at hd; cases hd
      | some p =>
        rw [hk] at hd
        cases hd
        have hp := h p (List.mem_of_getElem? hk)
        refine ⟨[A, T, some (.mu base.length), some (nD n), some (.int p)], [], by simp [wipeE], ?_⟩
        have e := part_at hp.1 hp.2
        have e2 : n.2.getD k 0 = p := by rw [List.getD_eq_getElem?_getD, hk]; rfl
        simp [e, hk])
  refine ⟨j, ?_⟩
  rw [hj]
  simp only [List.length_map, range_look]
theorem r_nodes {as : List Int} {ns : List Nd} (ha : Ar as) (h : Vt as ns) (st : Sto) : ∃ j, f_nodes [.tup (as.map D.int), tD ns] st = some (.ok (.int (lst (runN fN ns []))), st ++ j) := by
  obtain ⟨j0, h0⟩ := r_need_tree ha h st
  obtain ⟨s', y, hl⟩ := loop_one (set := setN 3) (body := sSeq (sExpr (mApp (mVar 2) (mOp fAdd (ret (.int 1)) (mBlt fSum (mArgs [(mLc (mIter (mSl (mVar 3) (some (ret (.int 1))) none)) [4] (setN 4) (ret true) (mOp fIx (mVar 2) (mVar 4)))]))))) sNx) (base := st ++ j0)
    (fun x => [some (.tup (as.map D.int)), some (tD ns), some (.mu (st ++ j0).length), x, none]) fN (by intro x d; simp) (fun i n => Vn as i n) (fun acc n s hacc hv => by
      have hps : ∀ p ∈ n.2, 0 ≤ p ∧ p < (acc.length : Int) := hv.ps
      obtain ⟨j, hj⟩ := lc_parts (A := some (.tup (as.map D.int))) (T := some (tD ns)) (base := st ++ j0) (s := s) (m := 0) (by have := ps_few ha hv; omega) hps
      refine ⟨s ++ [(look acc n.2).map D.int] ++ j, ?_⟩
      have hs : fSum [.mu (st ++ j0 ++ [acc.map D.int] ++ s).length] (st ++ j0 ++ [acc.map D.int] ++ s ++ [(look acc n.2).map D.int] ++ j) = some (.int (look acc n.2).sum, st ++ j0 ++ [acc.map D.int] ++ s ++ [(look acc n.2).map D.int] ++ j) :=
        r_sum (by rw [List.append_assoc, List.getElem?_append_right (Nat.le_refl _)]; simp)
      have hlt : acc.length < 100000 := by omega
      simp at hj hs
      simp [hj, hs, hlt, locD, fN]) ⟨ns.map nD, none⟩ ns [] none [] rfl (by simp; exact h.few) (by simpa using h.at')
  refine ⟨j0 ++ [(runN fN ns []).map D.int] ++ s', ?_⟩
  have hlast := atI_last (xs := runN fN ns []) (by rw [runN_len]; have := h.ne; omega)
  simp only [tD] at h0 hl ⊢
  simp only [f_nodes, b_nodes, u_runF, envOf]
  simp [h0, iterD]
  simp at hl
  simp [hl, hlast]
theorem r_height {as : List Int} {ns : List Nd} (ha : Ar as) (h : Vt as ns) (st : Sto) : ∃ j, f_height [.tup (as.map D.int), tD ns] st = some (.ok (.int (lst (runN fH ns []))), st ++ j) := by
  obtain ⟨j0, h0⟩ := r_need_tree ha h st
  obtain ⟨s', y, hl⟩ := loop_one (set := setN 3) (body := sSeq (sExpr (mApp (mVar 2) (mOp fAdd (ret (.int 1)) (mMaxDf (mLc (mIter (mSl (mVar 3) (some (ret (.int 1))) none)) [4] (setN 4) (ret true) (mOp fIx (mVar 2) (mVar 4))) (ret (.int 0)))))) sNx) (base := st ++ j0)
    (fun x => [some (.tup (as.map D.int)), some (tD ns), some (.mu (st ++ j0).length), x, none]) fH (by intro x d; simp) (fun i n => Vn as i n) (fun acc n s hacc hv => by
      have hps : ∀ p ∈ n.2, 0 ≤ p ∧ p < (acc.length : Int) := hv.ps
      obtain ⟨j, hj⟩ := lc_parts (A := some (.tup (as.map D.int))) (T := some (tD ns)) (base := st ++ j0) (s := s) (m := 0) (by have := ps_few ha hv; omega) hps
      refine ⟨s ++ [(look acc n.2).map D.int] ++ j, ?_⟩
      have hs : fMaxDf [.mu (st ++ j0 ++ [acc.map D.int] ++ s).length] [.int 0] (st ++ j0 ++ [acc.map D.int] ++ s ++ [(look acc n.2).map D.int] ++ j) = some (.int ((maxL (look acc n.2)).getD 0), st ++ j0 ++ [acc.map D.int] ++ s ++ [(look acc n.2).map D.int] ++ j) :=
        r_maxDf (by rw [List.append_assoc, List.getElem?_append_right (Nat.le_refl _)]; simp)
      have hlt : acc.length < 100000 := by omega
      simp at hj hs
      simp [hj, hs, hlt, locD, fH]) ⟨ns.map nD, none⟩ ns [] none [] rfl (by simp; exact h.few) (by simpa using h.at')
  refine ⟨j0 ++ [(runN fH ns []).map D.int] ++ s', ?_⟩
  have hlast := atI_last (xs := runN fH ns []) (by rw [runN_len]; have := h.ne; omega)
  simp only [tD] at h0 hl ⊢
  simp only [f_height, b_height, u_runF, envOf]
  simp [h0, iterD]
  simp at hl
  simp [hl, hlast]
end M2
set_option Elab.async false
set_option linter.all false
set_option maxRecDepth 100000
set_option maxHeartbeats 1000000
namespace M2
open PySem PySem.Spec PyProof.Rows L2
open Classical
/-! ### loops and comprehensions by an invariant -/
theorem loop_gen {set : SetE} {body : MS} (J : Nat → En → Sto → Prop) {it : IT} (hloc : it.loc = none)
    (hb : ∀ i d en st, it.items[i]? = some d → J i en st → ∃ en1 en2 st2, set d en = some en1 ∧ body en1 st = some (.nx, en2, st2) ∧ J (i + 1) en2 st2) :
    ∀ {en st}, J 0 en st → ∃ en' st', sLoop it set body it.items en st = some (.nx, en', st') ∧ J it.items.length en' st' := by
  have hg : ∀ st, gOk it st := fun st l hl => by rw [hloc] at hl; cases hl
  have main : ∀ (m i : Nat) (en : En) (st : Sto), it.items.length - i = m → i ≤ it.items.length → J i en st → ∃ en' st', sLoop it set body (it.items.drop i) en st = some (.nx, en', st') ∧ J it.items.length en' st' := by
    intro m
    induction m with
    | zero =>
      intro i en st h1 h2 hJ
      have e : i = it.items.length := by omega
      subst e
      rw [List.drop_length]
      exact ⟨en, st, by unfold sLoop; rw [if_pos (hg st)], hJ⟩
    | succ m ih =>
      intro i en st h1 h2 hJ
      have hlt : i < it.items.length := by omega
      obtain ⟨en1, en2, st2, e1, e2, hJ2⟩ := hb i _ en st (List.getElem?_eq_getElem hlt) hJ
      obtain ⟨en', st', e3, hJ3⟩ := ih (i + 1) en2 st2 (by omega) hlt hJ2
      refine ⟨en', st', ?_, hJ3⟩
      rw [List.drop_eq_getElem_cons hlt]
      unfold sLoop
      rw [if_pos (hg st), e1]
      simp only [e2]
      exact e3
  intro en st hJ
  obtain ⟨en', st', e, h⟩ := main _ 0 en st rfl (Nat.zero_le _) hJ
  exact ⟨en', st', by simpa using e, h⟩
theorem lc_gen {mi : MM IT} {vs : List Nat} {set : SetE} {elt : MM D} {en : En} {st st1 : Sto} {it : IT} (J : Nat → Sto → Prop) (R : D → Prop) (hi : mi en st = some (.ok it, st1)) (hloc : it.loc = none) (hn : it.items.length ≤ 1000)
    (h0 : J 0 (st1 ++ [[]])) (hset : ∀ i s acc, J i s → J i (s.set st1.length acc))
    (hb : ∀ i d s, it.items[i]? = some d → J i s → st1.length < s.length → ∃ en1 v s2, set d (wipeE en vs) = some en1 ∧ elt en1 s = some (.ok v, s2) ∧ R v ∧ J (i + 1) s2 ∧ s2[st1.length]? = s[st1.length]?) :
    ∃ ws s', mLc mi vs set (ret true) elt en st = some (.ok (.mu st1.length), s') ∧ J it.items.length s' ∧ s'[st1.length]? = some ws ∧ ws.length = it.items.length ∧ ∀ v ∈ ws, R v := by
  have hg : ∀ st, gOk it st := fun st l hl => by rw [hloc] at hl; cases hl
  have main : ∀ (m i : Nat) (acc : List D) (s : Sto), it.items.length - i = m → i ≤ it.items.length → J i s → s[st1.length]? = some acc → acc.length = i → (∀ v ∈ acc, R v) →
      ∃ ws s', cLoop it st1.length set (ret true) elt (wipeE en vs) (it.items.drop i) s = some s' ∧ J it.items.length s' ∧ s'[st1.length]? = some ws ∧ ws.length = it.items.length ∧ ∀ v ∈ ws, R v := by
    intro m
    induction m with
    | zero =>
      intro i acc s h1 h2 hJ ha hl hR
      have e : i = it.items.length := by omega
      subst e
      rw [List.drop_length]
      exact ⟨acc, s, by unfold cLoop; rw [if_pos (hg s)], hJ, ha, hl, hR⟩
    | succ m ih =>
      intro i acc s h1 h2 hJ ha hl hR
      have hlt : i < it.items.length := by omega
      have hs : st1.length < s.length := (List.getElem?_eq_some_iff.mp ha).1
      obtain ⟨en1, v, s2, e1, e2, hv, hJ2, hk⟩ := hb i _ s (List.getElem?_eq_getElem hlt) hJ hs
      rw [ha] at hk
      have hs2 : st1.length < s2.length := (List.getElem?_eq_some_iff.mp hk).1
      obtain ⟨ws, s', e3, r⟩ := ih (i + 1) (acc ++ [v]) (s2.set st1.length (acc ++ [v])) (by omega) hlt (hset _ _ _ hJ2) (by rw [List.getElem?_set_self hs2]) (by simp [hl]) (fun u hu => by
        rcases List.mem_append.mp hu with hu | hu
        · exact hR u hu
        · simp at hu; subst hu; exact hv)
      refine ⟨ws, s', ?_, r⟩
      rw [List.drop_eq_getElem_cons hlt]
      unfold cLoop
      rw [if_pos (hg s), e1]
      simp only [u_ret, e2, hk]
      rw [if_pos (by omega)]
      exact e3
  obtain ⟨ws, s', e, r⟩ := main _ 0 [] (st1 ++ [[]]) rfl (Nat.zero_le _) h0 (by simp) rfl (fun v h => nomatch h)
  refine ⟨ws, s', ?_, r⟩
  unfold mLc
  simp only [u_bnd, hi]
  rw [show it.items = it.items.drop 0 by simp, e]
  rfl
/-- one with a test that makes nothing -/
theorem lc_filter {mi : MM IT} {vs : List Nat} {set : SetE} {test : MM Bool} {elt : MM D} {en : En} {st st1 : Sto} {it : IT} (g : D → Option D) (hi : mi en st = some (.ok it, st1)) (hloc : it.loc = none) (hn : it.items.length ≤ 1000)
    (hb : ∀ d ∈ it.items, ∃ en1 b v, set d (wipeE en vs) = some en1 ∧ (∀ s, test en1 s = some (.ok b, s)) ∧ (∀ s, elt en1 s = some (.ok v, s)) ∧ g d = if b = true then some v else none) :
    mLc mi vs set test elt en st = some (.ok (.mu st1.length), st1 ++ [it.items.filterMap g]) := by
  have hg : ∀ st, gOk it st := fun st l hl => by rw [hloc] at hl; cases hl
  have main : ∀ (ds acc : List D), (∀ d ∈ ds, d ∈ it.items) → acc.length + ds.length ≤ 1000 → cLoop it st1.length set test elt (wipeE en vs) ds (st1 ++ [acc]) = some (st1 ++ [acc ++ ds.filterMap g]) := by
    intro ds
    induction ds with
    | nil =>
      intro acc _ _
      unfold cLoop
      rw [if_pos (hg _)]
      simp
    | cons d r ih =>
      intro acc hm hl
      obtain ⟨en1, b, v, e1, e2, e3, e4⟩ := hb d (hm d List.mem_cons_self)
      unfold cLoop
      rw [if_pos (hg _), e1]
      simp only [e2]
      cases b with
      | true =>
        simp only [e3]
        have a1 : (st1 ++ [acc])[st1.length]? = some acc := by simp
        simp only [a1]
        simp at hl
        rw [if_pos (by omega), show (st1 ++ [acc]).set st1.length (acc ++ [v]) = st1 ++ [acc ++ [v]] by simp, ih _ (fun x hx => hm x (List.mem_cons_of_mem _ hx)) (by simp; omega)]
        rw [if_pos rfl] at e4
        simp [List.filterMap_cons, e4]
      | false =>
        simp at hl
        have hz := ih acc (fun x hx => hm x (List.mem_cons_of_mem _ hx)) (by omega)
        simp only [hz]
        rw [if_neg Bool.false_ne_true] at e4
        simp [List.filterMap_cons, e4]
  unfold mLc
  simp only [u_bnd, hi]
  rw [main it.items [] (fun _ h => h) (by simpa using hn)]
  simp

/-! ### a law's cell, pen and draws -/
theorem r_cell (ns : List Int) (k : Nat) (st : Sto) : ∃ i, f__law_cell [.scr ns, .int (k : Int)] st = some (.ok (.int i), st) := by
  by_cases h : k < ns.length
  · refine ⟨ns[k], ?_⟩
    have e : atI ns (k : Int) = some ns[k] := atI_ok (by omega) (by simp [List.getElem?_eq_getElem h])
    simp [f__law_cell, b__law_cell, envOf, h, e]
  · exact ⟨0, by simp [f__law_cell, b__law_cell, envOf, h]⟩
/-- the pen at p: three numbers, at most N draws so far -/
def Pn (N : Nat) (st : Sto) (p : Nat) : Prop := ∃ a b c : Int, st[p]? = some [.int a, .int b, .int c] ∧ 0 ≤ a ∧ 0 ≤ b ∧ b < 2147483648 ∧ 0 ≤ c ∧ c ≤ N
/-- all else stands -/
def Fp (p : Nat) (st st' : Sto) : Prop := st.length ≤ st'.length ∧ ∀ l, l < st.length → l ≠ p → st'[l]? = st[l]?
theorem Fp.refl {p : Nat} {st : Sto} : Fp p st st := ⟨Nat.le_refl _, fun _ _ _ => rfl⟩
theorem Fp.trans {p : Nat} {a b c : Sto} (h : Fp p a b) (h2 : Fp p b c) : Fp p a c := ⟨Nat.le_trans h.1 h2.1, fun l hl hp => (h2.2 l (Nat.lt_of_lt_of_le hl h.1) hp).trans (h.2 l hl hp)⟩
theorem Fp.app {p : Nat} {a : Sto} (j : Sto) : Fp p a (a ++ j) := ⟨by simp, fun l hl _ => List.getElem?_append_left hl⟩
theorem Pn.app {N p : Nat} {a : Sto} (h : Pn N a p) (j : Sto) : Pn N (a ++ j) p := by
  obtain ⟨x, y, z, e, r⟩ := h
  exact ⟨x, y, z, by rw [List.getElem?_append_left (List.getElem?_eq_some_iff.mp e).1]; exact e, r⟩
theorem Pn.lt {N p : Nat} {a : Sto} (h : Pn N a p) : p < a.length := by
  obtain ⟨x, y, z, e, r⟩ := h
  exact (List.getElem?_eq_some_iff.mp e).1
theorem Pn.mono {N M p : Nat} {a : Sto} (h : Pn N a p) (hm : N ≤ M) : Pn M a p := by
  obtain ⟨x, y, z, e, r1, r2, r3, r4, r5⟩ := h
  exact ⟨x, y, z, e, r1, r2, r3, r4, by omega⟩
theorem Pn.set {N p q : Nat} {a : Sto} (h : Pn N a p) (hq : q ≠ p) (x : List D) : Pn N (a.set q x) p := by
  obtain ⟨u, y, z, e, r⟩ := h
  exact ⟨u, y, z, by rw [List.getElem?_set_ne hq]; exact e, r⟩
theorem log_lt {n : Nat} {k : Nat} (hk : 0 < k) (h : n < 2 ^ k) : n.log2 < k := PySem.Flt.log2_lt_of hk h
theorem mul_ok {i j : Int} (h1 : i.natAbs < 2 ^ 1000) (h2 : j.natAbs < 2 ^ 1000) : i.natAbs.log2 + j.natAbs.log2 < 1000000 := by
  have := log_lt (by decide : 0 < 1000) h1
  have := log_lt (by decide : 0 < 1000) h2
  omega
theorem r_pen (i : Int) (st : Sto) : ∃ st', f__law_pen [.int i] st = some (.ok (.mu st.length), st') ∧ Pn 0 st' st.length ∧ ∀ p, Fp p st st' := by
  have e1 : fPow (.int 10) (.int 18) st = some (.int 1000000000000000000, st) := by simp [fPow, iop]
  have e2 : fMod (.int i) (.int 2147483629) st = some (.int (i % 2147483629), st) := u_mod (by decide)
  refine ⟨st ++ [[.int (if i - 1000000000000000000 > 0 then i - 1000000000000000000 else 0), .int (i % 2147483629 + 1), .int 0]], ?_, ?_, fun p => Fp.app _⟩
  · simp [f__law_pen, b__law_pen, envOf, e1, e2]
  · refine ⟨if i - 1000000000000000000 > 0 then i - 1000000000000000000 else 0, i % 2147483629 + 1, 0, by simp, ?_, ?_, ?_, by omega, by omega⟩
    · split <;> omega
    · have := Int.emod_nonneg i (show (2147483629 : Int) ≠ 0 by decide); omega
    · have := Int.emod_lt_of_pos i (show (0 : Int) < 2147483629 by decide); omega
/-- a draw: a number from 0 to many - 1 -/
theorem r_draw {N p : Nat} {st : Sto} {many : Int} (hp : Pn N st p) (hN : N ≤ 1000000000) (h0 : 0 < many) (h9 : many.natAbs.log2 < 9000) :
    ∃ r st', f__law_draw [.mu p, .int many] st = some (.ok (.int r), st') ∧ 0 ≤ r ∧ r < many ∧ Pn (N + 1) st' p ∧ Fp p st st' := by
  obtain ⟨a, b, c, e, ha, hb, hb2, hc, hcN⟩ := hp
  have hl : p < st.length := (List.getElem?_eq_some_iff.mp e).1
  have ix0 : ∀ (x y z : D), atI [x, y, z] 0 = some x := fun x y z => rfl
  have ix1 : ∀ (x y z : D), atI [x, y, z] 1 = some y := fun x y z => rfl
  have ix2 : ∀ (x y z : D), atI [x, y, z] 2 = some z := fun x y z => rfl
  have n0 : ixN 3 0 = some 0 := rfl
  have n1 : ixN 3 1 = some 1 := rfl
  have n2 : ixN 3 2 = some 2 := rfl
  have fr : ∀ x, Fp p st (st.set p x) := fun x => ⟨by simp, fun l h1 h2 => by rw [List.getElem?_set_ne (Ne.symm h2)]⟩
  by_cases h : 0 < a
  · refine ⟨a % many, st.set p [.int (a / many), .int b, .int c], ?_, Int.emod_nonneg _ (by omega), Int.emod_lt_of_pos _ h0, ⟨_, _, _, List.getElem?_set_self hl, Int.ediv_nonneg ha (by omega), hb, hb2, hc, by omega⟩, fr _⟩
    simp only [f__law_draw, b__law_draw, u_runF, envOf]
    simp [e, ix0, h, u_mod h0, u_div h0 h9, n0]
  · obtain ⟨b1, eb1⟩ : ∃ x : Int, x = (b * 48271 + 1009 * (c + 1) + 7) % 2147483647 := ⟨_, rfl⟩
    have hb1 : 0 ≤ b1 := by rw [eb1]; exact Int.emod_nonneg _ (by decide)
    have hb1' : b1 < 2147483647 := by rw [eb1]; exact Int.emod_lt_of_pos _ (by decide)
    obtain ⟨s1, es1⟩ : ∃ x : Int, x = (b1 * b1 + 69621 * b1 + 11) % 2147483629 := ⟨_, rfl⟩
    have hs1 : 0 ≤ s1 := by rw [es1]; exact Int.emod_nonneg _ (by decide)
    have hs1' : s1 < 2147483629 := by rw [es1]; exact Int.emod_lt_of_pos _ (by decide)
    obtain ⟨s2, es2⟩ : ∃ x : Int, x = (s1 * s1 + 40014 * s1) % 2147483587 := ⟨_, rfl⟩
    have small : ∀ x : Int, 0 ≤ x → x < 2147483648 → x.natAbs < 2 ^ 1000 := fun x h1 h2 => Nat.lt_of_lt_of_le (show x.natAbs < 2147483648 by omega) (by decide)
    have m1 : ∀ s : Sto, fMul (.int b) (.int 48271) s = some (.int (b * 48271), s) := fun s => u_mul (mul_ok (small b hb hb2) (by decide))
    have m2 : ∀ s : Sto, fMul (.int 1009) (.int (c + 1)) s = some (.int (1009 * (c + 1)), s) := fun s => u_mul (mul_ok (by decide) (small (c + 1) (by omega) (by omega)))
    have m3 : ∀ s : Sto, fMul (.int b1) (.int b1) s = some (.int (b1 * b1), s) := fun s => u_mul (mul_ok (small b1 hb1 (by omega)) (small b1 hb1 (by omega)))
    have m4 : ∀ s : Sto, fMul (.int 69621) (.int b1) s = some (.int (69621 * b1), s) := fun s => u_mul (mul_ok (by decide) (small b1 hb1 (by omega)))
    have m5 : ∀ s : Sto, fMul (.int s1) (.int s1) s = some (.int (s1 * s1), s) := fun s => u_mul (mul_ok (small s1 hs1 (by omega)) (small s1 hs1 (by omega)))
    have m6 : ∀ s : Sto, fMul (.int 40014) (.int s1) s = some (.int (40014 * s1), s) := fun s => u_mul (mul_ok (by decide) (small s1 hs1 (by omega)))
    have d1 : ∀ s : Sto, fMod (.int (b * 48271 + 1009 * (c + 1) + 7)) (.int 2147483647) s = some (.int b1, s) := fun s => by rw [eb1]; exact u_mod (by decide)
    have d2 : ∀ s : Sto, fMod (.int (b1 * b1 + 69621 * b1 + 11)) (.int 2147483629) s = some (.int s1, s) := fun s => by rw [es1]; exact u_mod (by decide)
    have d3 : ∀ s : Sto, fMod (.int (s1 * s1 + 40014 * s1)) (.int 2147483587) s = some (.int s2, s) := fun s => by rw [es2]; exact u_mod (by decide)
    have d4 : ∀ s : Sto, fDiv (.int s2) (.int 16) s = some (.int (s2 / 16), s) := fun s => u_div (by decide) (by decide)
    have d5 : ∀ s : Sto, fMod (.int (s2 / 16)) (.int many) s = some (.int (s2 / 16 % many), s) := fun s => u_mod h0
    refine ⟨s2 / 16 % many, st.set p [.int a, .int b1, .int (c + 1)], ?_, Int.emod_nonneg _ (by omega), Int.emod_lt_of_pos _ h0, ⟨_, _, _, List.getElem?_set_self hl, ha, hb1, by omega, by omega, by omega⟩, fr _⟩
    simp only [f__law_draw, b__law_draw, u_runF, envOf]
    have gs : ∀ x, (st.set p x)[p]? = some x := fun x => List.getElem?_set_self hl
    simp [e, ix0, ix1, ix2, h, n0, n1, n2, gs, m1, m2, d1, m3, m4, d2, m5, m6, d3, d4, d5]
/-- one of a list that is not the pen -/
theorem r_pick {N p q : Nat} {st : Sto} {ds : List D} (hp : Pn N st p) (hN : N ≤ 1000000000) (hq : q ≠ p) (e : st[q]? = some ds) (h0 : 0 < ds.length) (h9 : ds.length ≤ 1000) :
    ∃ d st', f__law_pick [.mu p, .mu q] st = some (.ok d, st') ∧ d ∈ ds ∧ Pn (N + 1) st' p ∧ Fp p st st' := by
  obtain ⟨r, st', h1, h2, h3, h4, h5⟩ := r_draw (many := (ds.length : Int)) hp hN (by omega) (Nat.lt_of_lt_of_le (log_lt (by decide : 0 < 10) (show (ds.length : Int).natAbs < 2 ^ 10 by omega)) (by decide))
  have hl : q < st.length := (List.getElem?_eq_some_iff.mp e).1
  have hr : r.toNat < ds.length := by omega
  have e2 : st'[q]? = some ds := by rw [h5.2 q hl hq]; exact e
  refine ⟨ds[r.toNat], st', ?_, List.getElem_mem hr, h4, h5⟩
  have hat : atI ds r = some ds[r.toNat] := atI_ok h2 (List.getElem?_eq_getElem hr)
  simp [f__law_pick, b__law_pick, envOf, e, h1, e2, hat]
end M2
set_option Elab.async false
set_option linter.all false
set_option maxRecDepth 100000
set_option maxHeartbeats 1000000
namespace M2
open PySem PySem.Spec PyProof.Rows L2
open Classical
theorem Fp.set {p q : Nat} {a b : Sto} (h : Fp p a b) (hq : a.length ≤ q) (x : List D) : Fp p a (b.set q x) :=
  ⟨by simpa using h.1, fun l hl hp => by rw [List.getElem?_set_ne (by omega)]; exact h.2 l hl hp⟩
/-- all of these are ints with P -/
def IntsP (P : Int → Prop) (d : D) : Prop := ∃ a, d = .int a ∧ P a
theorem ints_of {P : Int → Prop} : ∀ {ws : List D}, (∀ v ∈ ws, IntsP P v) → ∃ ns : List Int, ws = ns.map D.int ∧ ∀ n ∈ ns, P n
  | [], _ => ⟨[], rfl, fun _ h => nomatch h⟩
  | w :: ws, h => by
    obtain ⟨a, rfl, ha⟩ := h w List.mem_cons_self
    obtain ⟨ns, rfl, hn⟩ := ints_of (ws := ws) fun v hv => h v (List.mem_cons_of_mem _ hv)
    exact ⟨a :: ns, rfl, fun n hn' => by
      rcases List.mem_cons.mp hn' with rfl | hn'
      · exact ha
      · exact hn n hn'⟩
theorem rng_ok {en : En} {st st1 : Sto} {m : MM D} {r : Int} (h : m en st = some (.ok (.int r), st1)) (h0 : 0 ≤ r) (h1 : r < 1000000) : mRng1 m en st = some (.ok ⟨(List.range r.toNat).map fun (i : Nat) => D.int (i : Int), none⟩, st1) := by
  have c1 : -(2 ^ 62) ≤ r := by omega
  have c2 : r < 2 ^ 62 := by omega
  simp only [mRng1, u_bnd, h, u_lft]
  rw [if_pos ⟨c1, c2⟩]
  rfl
theorem r_arities {N p : Nat} {st : Sto} (hp : Pn N st p) (hN : N ≤ 100000000) :
    ∃ as st', f__law_arities [.mu p] st = some (.ok (.tup (as.map D.int)), st') ∧ Ar as ∧ 0 ∈ as ∧ Pn (N + 20) st' p ∧ Fp p st st' := by
  obtain ⟨r, st1, d1, r0, r4, p1, F1⟩ := r_draw (many := 4) hp (by omega) (by decide) (by decide)
  have l1 := p1.lt
  obtain ⟨ws, s2, hlc, ⟨p2, F2⟩, hat, hlen, hR⟩ := lc_gen (mi := mRng1 (mCall 2 f__law_draw (mArgs [(mVar 0), (ret (.int 4))]))) (vs := [2]) (set := setN 2)
    (elt := mCall 2 f__law_pick (mArgs [(mVar 0), (mLst [(ret (.int 0)), (ret (.int 1)), (ret (.int 2)), (ret (.int 2))])])) (en := [some (.mu p), none, none]) (st := st) (st1 := st1)
    (it := ⟨(List.range r.toNat).map fun (i : Nat) => D.int (i : Int), none⟩) (fun i s => Pn (N + 1 + i) s p ∧ Fp p st1 s) (IntsP fun a => 0 ≤ a ∧ a ≤ 2)
    (rng_ok (by simp [d1]) r0 (by omega)) rfl (by simp; omega) ⟨p1.app _, Fp.app _⟩ (fun i s acc ⟨h1, h2⟩ => ⟨h1.set (by omega) _, h2.set (Nat.le_refl _) _⟩)
    (fun i d s hd ⟨h1, h2⟩ hl => by
      have hi : i < r.toNat := by
        have := (List.getElem?_eq_some_iff.mp hd).1
        simpa using this
      obtain ⟨v, s3, e1, hv, p3, F3⟩ := r_pick (q := s.length) (ds := [.int 0, .int 1, .int 2, .int 2]) (h1.app [[.int 0, .int 1, .int 2, .int 2]]) (by omega) (by have := h1.lt; omega) (by simp) (by simp) (by simp)
      have F4 : Fp p s s3 := (Fp.app _).trans F3
      refine ⟨[some (.mu p), none, some d], v, s3, by simp [wipeE], by simp [e1], ?_, ⟨p3.mono (by omega), h2.trans F4⟩, F4.2 _ hl (by omega)⟩
      simp at hv
      rcases hv with rfl | rfl | rfl <;> exact ⟨_, rfl, by omega, by omega⟩)
  obtain ⟨as1, rfl, has1⟩ := ints_of hR
  simp at hlen
  have l2 := p2.lt
  obtain ⟨k, s3, d3, k0, k2, p3, F3⟩ := r_draw (many := 2) (p2.app [[.int 0]]) (by simp; omega) (by decide) (by decide)
  have a1 : s3[st1.length]? = some (as1.map D.int) := by
    have hl : st1.length < s2.length := (List.getElem?_eq_some_iff.mp hat).1
    rw [F3.2 _ (by simp; omega) (by omega), List.getElem?_append_left hl]; exact hat
  have a2 : s3[s2.length]? = some [.int 0] := by
    rw [F3.2 _ (by simp) (by omega)]; simp
  have hk : k = 0 ∨ k = 1 := by omega
  obtain ⟨zs, hzs, hz⟩ : ∃ zs : List Int, (List.replicate (1 + k).toNat [D.int 0]).flatten = zs.map D.int ∧ (zs = [0] ∨ zs = [0, 0]) := by
    rcases hk with rfl | rfl
    · exact ⟨[0], rfl, .inl rfl⟩
    · exact ⟨[0, 0], rfl, .inr rfl⟩
  have m1 : fMul (.mu s2.length) (.int (1 + k)) s3 = some (.mu s3.length, s3 ++ [zs.map D.int]) := by
    simp only [fMul, a2, ← hzs]
    rw [if_pos (by simp; omega)]
  have zl : zs.length ≤ 2 ∧ 1 ≤ zs.length := by rcases hz with rfl | rfl <;> simp
  have m2 : fAdd (.mu st1.length) (.mu s3.length) (s3 ++ [zs.map D.int]) = some (.mu (s3 ++ [zs.map D.int]).length, s3 ++ [zs.map D.int] ++ [as1.map D.int ++ zs.map D.int]) := by
    have b1 : (s3 ++ [zs.map D.int])[st1.length]? = some (as1.map D.int) := by rw [List.getElem?_append_left (List.getElem?_eq_some_iff.mp a1).1]; exact a1
    have b2 : (s3 ++ [zs.map D.int])[s3.length]? = some (zs.map D.int) := by simp
    rw [u_addM, b1, b2]
    simp only []
    rw [if_pos (by simp; omega)]
  have p4 := (p3.app [zs.map D.int]).app [as1.map D.int ++ zs.map D.int]
  obtain ⟨b, s5, d5, b0, b2, p5, F5⟩ := r_draw (many := 2) p4 (by simp; omega) (by decide) (by decide)
  have a5 : s5[s3.length + 1]? = some ((as1 ++ zs).map D.int) := by
    have hne : s3.length + 1 ≠ p := by have := p3.lt; omega
    rw [F5.2 _ (by simp) hne]
    rw [List.getElem?_append_right (by simp)]
    simp
  have ar : ∀ l : List Int, (∀ a, a ∈ l ↔ a ∈ as1 ++ zs) → l.length = (as1 ++ zs).length → Ar l ∧ 0 ∈ l := fun l h1 h2 => by
    simp at h2
    refine ⟨⟨by omega, by omega, fun a ha => ?_⟩, ?_⟩
    · have := (h1 a).mp ha
      rcases List.mem_append.mp this with h | h
      · exact has1 a h
      · rcases hz with rfl | rfl <;> simp at h <;> omega
    · rw [h1]
      rcases hz with rfl | rfl <;> simp
  have hF : Fp p st s5 := ((((F1.trans F2).trans (Fp.app _)).trans F3).trans ((Fp.app _).trans (Fp.app _))).trans F5
  have hP : Pn (N + 20) s5 p := p5.mono (by simp; omega)
  simp at hlc d3 m1 m2 d5
  by_cases hb : b = 0
  · subst hb
    obtain ⟨h1, h2⟩ := ar (as1 ++ zs).reverse (fun a => List.mem_reverse) List.length_reverse
    refine ⟨(as1 ++ zs).reverse, s5 ++ [((as1 ++ zs).reverse).map D.int], ?_, h1, h2, hP.app _, hF.trans (Fp.app _)⟩
    simp only [f__law_arities, b__law_arities, u_runF, envOf]
    simp [hlc, d3, m1, m2, d5, a5, fRev]
  · obtain ⟨h1, h2⟩ := ar (as1 ++ zs) (fun a => Iff.rfl) rfl
    refine ⟨as1 ++ zs, s5, ?_, h1, h2, hP, hF⟩
    simp only [f__law_arities, b__law_arities, u_runF, envOf]
    simp [hlc, d3, m1, m2, d5, a5, hb]
end M2
set_option Elab.async false
set_option linter.all false
set_option maxRecDepth 100000
set_option maxHeartbeats 2000000
namespace M2
open PySem PySem.Spec PyProof.Rows L2
open Classical
theorem datL_ints (st : Sto) (n : Nat) : ∀ ns : List Int, datL st (n + 1) (ns.map D.int) = some (ns.map PyData.int)
  | [] => by simp [datL]
  | x :: xs => by simp [datL, dat, datL_ints st n xs]
theorem dat_mu {st : Sto} {n l : Nat} {ds : List D} (h : st[l]? = some ds) : dat st (n + 1) (.mu l) = (datL st n ds).map PyData.list := by simp [dat, h]
theorem can_ints : ∀ ns : List Int, PyData.canLayAll0 (ns.map PyData.int) = true
  | [] => rfl
  | x :: xs => by
    show (PyData.canLay0 (.int x) && PyData.canLayAll0 (xs.map PyData.int)) = true
    rw [can_ints xs]; rfl
theorem eq_nil {l k : Nat} {st : Sto} {ns : List Int} (h1 : st[l]? = some (ns.map D.int)) (h2 : st[k]? = some []) (h : ns ≠ []) : fEqA (.mu l) (.mu k) st = some (.bl false, st) := by
  have e1 : dat st 64 (.mu l) = some (.list (ns.map PyData.int)) := by rw [dat_mu h1, datL_ints st 62]; rfl
  have e2 : dat st 64 (.mu k) = some (.list []) := by rw [dat_mu h2]; simp [datL]
  have e3 : PyData.eqv (.list (ns.map PyData.int)) (.list []) = false := by
    cases ns with
    | nil => exact absurd rfl h
    | cons x xs => rfl
  show fEq (.mu l) (.mu k) st = _
  unfold fEq eqD
  rw [e1, e2]
  simp only [PyData.canLay0, can_ints, PyData.canLayAll0]
  simp [e3]
/-- the leaves' numbers -/
theorem leaves {en : En} {st : Sto} {as : List Int} {A : D} (hen : wipeE en [4, 5] = [some A, some (.tup (as.map D.int)), en[2]?.join, none, none, none, none, none, none, none, none]) (h1 : en[1]? = some (some (.tup (as.map D.int)))) (hl : as.length ≤ 1000) (h0 : 0 ∈ as) :
    ∃ os : List Int, mLc (mEnum (mVar 1)) [4, 5] (setTup 2 [(setN 4), (setN 5)]) (mB (mOp fEqA (mVar 5) (ret (.int 0)))) (mVar 4) en st = some (.ok (.mu st.length), st ++ [os.map D.int]) ∧ os ≠ [] ∧ os.length ≤ 1000 ∧
      ∀ o ∈ os, 0 ≤ o ∧ o < (as.length : Int) ∧ as[o.toNat]? = some 0 := by
  let g : D → Option D := fun d => match d with
    | .tup [.int i, .int a] => if decide (a = 0) = true then some (.int i) else none
    | _ => none
  have items : ∀ (k : Nat) (d : D), (numbered 0 (as.map D.int))[k]? = some d ↔ ∃ a, as[k]? = some a ∧ d = .tup [.int (k : Int), .int a] := fun k d => by
    rw [numbered_get, List.getElem?_map]
    cases as[k]? with
    | none => simp
    | some a => simp [eq_comm]
  have hf := lc_filter (mi := mEnum (mVar 1)) (vs := [4, 5]) (set := setTup 2 [(setN 4), (setN 5)]) (test := mB (mOp fEqA (mVar 5) (ret (.int 0)))) (elt := mVar 4) (en := en) (st := st) (st1 := st) (it := ⟨numbered 0 (as.map D.int), none⟩) g
    (by simp [mEnum, h1]) rfl (by show _ ≤ _; rw [numbered_len]; simpa using hl) (fun d hd => by
      obtain ⟨k, hk⟩ := List.mem_iff_getElem?.mp hd
      obtain ⟨a, ha, rfl⟩ := (items k d).mp hk
      refine ⟨[some A, some (.tup (as.map D.int)), en[2]?.join, none, some (.int (k : Int)), some (.int a), none, none, none, none, none], decide (a = 0), .int (k : Int), ?_, fun s => by simp, fun s => by simp, rfl⟩
      rw [hen]; simp [setTup, setT])
  have hall : ∀ v ∈ (numbered 0 (as.map D.int)).filterMap g, IntsP (fun o => 0 ≤ o ∧ o < (as.length : Int) ∧ as[o.toNat]? = some 0) v := fun v hv => by
    obtain ⟨d, hd, hg⟩ := List.mem_filterMap.mp hv
    obtain ⟨k, hk⟩ := List.mem_iff_getElem?.mp hd
    obtain ⟨a, ha, rfl⟩ := (items k d).mp hk
    have hkl := (List.getElem?_eq_some_iff.mp ha).1
    by_cases h : a = 0
    · subst h
      replace hg : (if decide ((0 : Int) = 0) = true then some (D.int (k : Int)) else none) = some v := hg
      rw [if_pos (by simp)] at hg
      cases hg
      exact ⟨k, rfl, by omega, by omega, by simpa using ha⟩
    · replace hg : (if decide (a = 0) = true then some (D.int (k : Int)) else none) = some v := hg
      rw [if_neg (by simpa using h)] at hg
      cases hg
  obtain ⟨os, eos, hos⟩ := ints_of hall
  have hlen : os.length ≤ 1000 := by
    have : (os.map D.int).length ≤ 1000 := by
      rw [← eos]
      exact Nat.le_trans (List.length_filterMap_le _ _) (by rw [numbered_len]; simpa using hl)
    simpa using this
  refine ⟨os, by rw [hf]; show some (_, st ++ [(numbered 0 (as.map D.int)).filterMap g]) = _; rw [eos], fun e => ?_, hlen, hos⟩
  obtain ⟨k, hk⟩ := List.mem_iff_getElem?.mp h0
  have hm : D.int (k : Int) ∈ (numbered 0 (as.map D.int)).filterMap g :=
    List.mem_filterMap.mpr ⟨.tup [.int (k : Int), .int 0], List.mem_iff_getElem?.mpr ⟨k, (items k _).mpr ⟨0, hk, rfl⟩⟩, rfl⟩
  rw [eos, e] at hm
  cases hm
/-- nodes so far, each good at its place -/
def Good (as : List Int) (ns : List Nd) : Prop := ∀ i n, ns[i]? = some n → Vn as i n
theorem Good.snoc {as : List Int} {ns : List Nd} {n : Nd} (h : Good as ns) (hn : Vn as ns.length n) : Good as (ns ++ [n]) := fun i m e => by
  by_cases hi : i < ns.length
  · rw [List.getElem?_append_left hi] at e
    exact h i m e
  · have := (List.getElem?_eq_some_iff.mp e).1
    simp at this
    have : i = ns.length := by omega
    subst this
    simp at e
    subst e
    exact hn
theorem cutD_to (xs : List D) {a : Int} (h : 0 ≤ a) : cutD xs none (some a) = xs.take a.toNat := by
  unfold cutD
  obtain ⟨k, rfl⟩ : ∃ k : Nat, a = (k : Int) := ⟨a.toNat, by omega⟩
  rw [HT.sIx_none, show HT.sIx xs.length xs.length (some (k : Int)) = min k xs.length from HT.sIx_nat xs.length xs.length k]
  simp
end M2
set_option Elab.async false
set_option linter.all false
set_option maxRecDepth 100000
set_option maxHeartbeats 2000000
namespace M2
open PySem PySem.Spec PyProof.Rows L2
open Classical
theorem Fp.at {p : Nat} {a b : Sto} (h : Fp p a b) {l : Nat} {x : List D} (e : a[l]? = some x) (hp : l ≠ p) : b[l]? = some x := by
  rw [h.2 l (List.getElem?_eq_some_iff.mp e).1 hp]; exact e
theorem at_app {a : Sto} {l : Nat} {x : List D} (e : a[l]? = some x) (j : Sto) : (a ++ j)[l]? = some x := by
  rw [List.getElem?_append_left (List.getElem?_eq_some_iff.mp e).1]; exact e
theorem log10 {i : Int} (h0 : 0 ≤ i) (h : i ≤ 1000) : i.natAbs.log2 < 9000 := Nat.lt_of_lt_of_le (log_lt (by decide : 0 < 10) (show i.natAbs < 2 ^ 10 by omega)) (by decide)
/-- two parts, each below the number of nodes so far -/
theorem r_parts {N p f : Nat} {st : Sto} {as : List Int} {x2 x3 x4 : Option D} {near : Int} {ns : List Nd} (hp : Pn N st p) (hN : N ≤ 900000000) (hf : st[f]? = some (ns.map nD)) (hfp : f ≠ p) (h1 : 1 ≤ ns.length) (h2 : ns.length ≤ 500) (n0 : 0 ≤ near) (n1 : near < (ns.length : Int)) (x7 x9 : Option D) :
    ∃ (ps : List Int) (st' : Sto), mLc (mRng1 (ret (.int 2))) [10] (setN 10) (ret true) (mOp fIx (mLst [(mVar 8), (mOp fSub (mBlt fLen (mArgs [(mVar 6)])) (ret (.int 1))), (mCall 2 f__law_draw (mArgs [(mVar 0), (mBlt fLen (mArgs [(mVar 6)]))]))]) (mCall 2 f__law_draw (mArgs [(mVar 0), (ret (.int 3))])))
      [some (.mu p), some (.tup (as.map D.int)), x2, x3, x4, none, some (.mu f), x7, some (.int near), x9, none] st = some (.ok (.mu st.length), st') ∧ st'[st.length]? = some (ps.map D.int) ∧ ps.length = 2 ∧ (∀ q ∈ ps, 0 ≤ q ∧ q < (ns.length : Int)) ∧ Pn (N + 4) st' p ∧ Fp p st st' := by
  have lp := hp.lt
  have lf := (List.getElem?_eq_some_iff.mp hf).1
  obtain ⟨ws, s2, hlc, ⟨p2, F2⟩, hat, hlen, hR⟩ := lc_gen (mi := mRng1 (ret (.int 2))) (vs := [10]) (set := setN 10)
    (elt := mOp fIx (mLst [(mVar 8), (mOp fSub (mBlt fLen (mArgs [(mVar 6)])) (ret (.int 1))), (mCall 2 f__law_draw (mArgs [(mVar 0), (mBlt fLen (mArgs [(mVar 6)]))]))]) (mCall 2 f__law_draw (mArgs [(mVar 0), (ret (.int 3))])))
    (en := [some (.mu p), some (.tup (as.map D.int)), x2, x3, x4, none, some (.mu f), x7, some (.int near), x9, none]) (st := st) (st1 := st) (it := ⟨(List.range (2 : Int).toNat).map fun (i : Nat) => D.int (i : Int), none⟩)
    (fun i s => Pn (N + 2 * i) s p ∧ Fp p st s) (IntsP fun q => 0 ≤ q ∧ q < (ns.length : Int)) (rng_ok (by simp) (by decide) (by decide)) rfl (by simp) ⟨hp.app _, Fp.app _⟩ (fun i s acc ⟨a1, a2⟩ => ⟨a1.set (by omega) _, a2.set (Nat.le_refl _) _⟩)
    (fun i d s hd ⟨a1, a2⟩ hl => by
      have hi : i < 2 := by
        have := (List.getElem?_eq_some_iff.mp hd).1
        simpa using this
      have sf := a2.at hf hfp
      obtain ⟨r, s3, e1, r0, r1, p3, F3⟩ := r_draw (many := (ns.length : Int)) a1 (by omega) (by omega) (log10 (by omega) (by omega))
      obtain ⟨k, s4, e2, k0, k3, p4, F4⟩ := r_draw (many := 3) (p3.app [[.int near, .int ((ns.length : Int) - 1), .int r]]) (by omega) (by decide) (by decide)
      have q4 : s4[s3.length]? = some [.int near, .int ((ns.length : Int) - 1), .int r] := F4.at (by simp) (by have := p3.lt; omega)
      have F5 : Fp p s s4 := (F3.trans (Fp.app _)).trans F4
      have pick : ∃ v : Int, atI [D.int near, .int ((ns.length : Int) - 1), .int r] k = some (.int v) ∧ 0 ≤ v ∧ v < (ns.length : Int) := by
        have : k = 0 ∨ k = 1 ∨ k = 2 := by omega
        rcases this with rfl | rfl | rfl
        · exact ⟨near, rfl, n0, n1⟩
        · exact ⟨(ns.length : Int) - 1, rfl, by omega, by omega⟩
        · exact ⟨r, rfl, r0, r1⟩
      obtain ⟨v, hv, v0, v1⟩ := pick
      refine ⟨[some (.mu p), some (.tup (as.map D.int)), x2, x3, x4, none, some (.mu f), x7, some (.int near), x9, some d], .int v, s4, by simp [wipeE], ?_, ⟨v, rfl, v0, v1⟩, ⟨p4.mono (by omega), a2.trans F5⟩, F5.2 _ hl (by omega)⟩
      simp [sf, e1, e2, q4, hv])
  obtain ⟨ps, rfl, hps⟩ := ints_of hR
  refine ⟨ps, s2, hlc, hat, by simpa using hlen, hps, p2.mono (by simp), F2⟩
theorem r_written {N p : Nat} {st : Sto} {as : List Int} {upto : Int} (hp : Pn N st p) (hN : N ≤ 100000000) (ha : Ar as) (h0 : 0 ∈ as) (u0 : 1 ≤ upto) (u1 : upto ≤ 100) :
    ∃ ns st', f__law_written [.mu p, .tup (as.map D.int), .int upto] st = some (.ok (tD ns), st') ∧ Vt as ns ∧ ns.length ≤ 100 ∧ Pn (N + 1000) st' p ∧ Fp p st st' := by
  obtain ⟨os, hlv, ne, fewo, hos⟩ := leaves (en := [some (.mu p), some (.tup (as.map D.int)), some (.int upto), none, none, none, none, none, none, none, none]) (st := st) (as := as) (A := .mu p) (by simp [wipeE]) rfl (by have := ha.2.1; omega) h0
  have lp := hp.lt
  have c1 : (st ++ [os.map D.int] ++ [[]])[st.length]? = some (os.map D.int) := by simp
  have heq : fEqA (.mu st.length) (.mu (st.length + 1)) (st ++ [os.map D.int] ++ [[]]) = some (.bl false, st ++ [os.map D.int] ++ [[]]) := eq_nil c1 (by simp) ne
  obtain ⟨d, s1, e1, hd, p1, F1⟩ := r_pick (q := st.length) (ds := os.map D.int) ((hp.app [os.map D.int]).app [[]]) (by omega) (by omega) c1 (by simp; exact List.length_pos_iff.mpr ne) (by simpa using fewo)
  obtain ⟨o, ho, rfl⟩ := List.mem_map.mp hd
  obtain ⟨o0, o1, o2⟩ := hos o ho
  have hF1 : Fp p st s1 := ((Fp.app _).trans (Fp.app _)).trans F1
  let s2 : Sto := s1 ++ [[nD (o, [])]]
  obtain ⟨r, s3, e3, r0, r1, p3, F3⟩ := r_draw (many := upto) (p1.app [[nD (o, [])]]) (by omega) (by omega) (log10 (by omega) (by omega))
  have lf : s1.length ≠ p := by have := p1.lt; omega
  have f3 : s3[s1.length]? = some (([(o, [])] : List Nd).map nD) := F3.at (by simp) lf
  have g0 : Good as [(o, [])] := fun i n e => by
    have := (List.getElem?_eq_some_iff.mp e).1
    simp at this
    subst this
    simp at e
    subst e
    exact ⟨o0, o1, by simpa using o2, fun _ h => nomatch h⟩
  have hF3 : Fp p st s3 := (hF1.trans (Fp.app _)).trans F3
  let J : Nat → En → Sto → Prop := fun i en s => (∃ x4 x7 x8 x9, en = [some (.mu p), some (.tup (as.map D.int)), some (.int upto), some (.mu st.length), x4, none, some (.mu s1.length), x7, x8, x9, none]) ∧ Pn (N + 2 + 6 * i) s p ∧ Fp p st s ∧
    ∃ ns : List Nd, s[s1.length]? = some (ns.map nD) ∧ ns.length = i + 1 ∧ Good as ns
  obtain ⟨en', s', hl, ⟨x4, x7, x8, x9, he⟩, p', F', ns, hf, hn, hg⟩ := loop_gen (set := setN 7) (it := ⟨(List.range r.toNat).map fun (i : Nat) => D.int (i : Int), none⟩)
    (body := (sSeq (sAsg (mCall 2 f__law_draw (mArgs [(mVar 0), (mBlt fLen (mArgs [(mVar 1)]))])) (setN 4))
    (sSeq (sAsg (mBlt fMax2 (mArgs [(ret (.int 0)), (mOp fSub (mOp fSub (mBlt fLen (mArgs [(mVar 6)])) (ret (.int 1))) (mCall 2 f__law_draw (mArgs [(mVar 0), (ret (.int 3))])))])) (setN 8))
    (sSeq (sAsg (mLc (mRng1 (ret (.int 2))) [10] (setN 10) (ret true) (mOp fIx (mLst [(mVar 8), (mOp fSub (mBlt fLen (mArgs [(mVar 6)])) (ret (.int 1))), (mCall 2 f__law_draw (mArgs [(mVar 0), (mBlt fLen (mArgs [(mVar 6)]))]))]) (mCall 2 f__law_draw (mArgs [(mVar 0), (ret (.int 3))])))) (setN 9))
    (sSeq (sExpr (mApp (mVar 6) (mOp fAdd (mTup [(mVar 4)]) (mBlt fTuple (mArgs [(mSl (mVar 9) none (some (mOp fIx (mVar 1) (mVar 4))))])))))
    sNx)))))
    J rfl (fun i d en s hd ⟨⟨x4, x7, x8, x9, he⟩, pJ, FJ, ns, hf, hn, hg⟩ => by
      subst he
      have hi : i < r.toNat := by
        have := (List.getElem?_eq_some_iff.mp hd).1
        simpa using this
      have al := ha.2.1
      have al1 := ha.1
      obtain ⟨w, t1, d1, w0, w1, q1, G1⟩ := r_draw (many := (as.length : Int)) pJ (by omega) (by omega) (log10 (by omega) (by omega))
      have hf1 := G1.at hf lf
      obtain ⟨k, t2, d2, k0, k3, q2, G2⟩ := r_draw (many := 3) q1 (by omega) (by decide) (by decide)
      have hf2 := G2.at hf1 lf
      obtain ⟨near, hnear⟩ : ∃ x : Int, x = if k < (ns.length : Int) - 1 then (ns.length : Int) - 1 - k else 0 := ⟨_, rfl⟩
      obtain ⟨ps, t3, hps, hat, pl, pb, q3, G3⟩ := r_parts (as := as) (x2 := some (.int upto)) (x3 := some (.mu st.length)) (x4 := some (.int w)) (near := near) q2 (by omega) hf2 lf (by omega) (by omega) (by rw [hnear]; split <;> omega) (by rw [hnear]; split <;> omega) (some d) x9
      have hf3 := G3.at hf2 lf
      have lw : w.toNat < as.length := by omega
      have hw : as[w.toNat]? = some as[w.toNat] := List.getElem?_eq_getElem lw
      have hwa := ha.2.2 _ (List.mem_of_getElem? hw)
      have iw : atI (as.map D.int) w = some (.int as[w.toNat]) := atI_ok w0 (by rw [List.getElem?_map, hw]; rfl)
      let n : Nd := (w, ps.take as[w.toNat].toNat)
      have hcut : cutD (ps.map D.int) none (some as[w.toNat]) = (ps.take as[w.toNat].toNat).map D.int := by rw [cutD_to _ hwa.1, List.map_take]
      have hVn : Vn as ns.length n := ⟨w0, w1, by show as[w.toNat]? = some (((ps.take as[w.toNat].toNat).length : Nat) : Int); rw [List.length_take, pl, hw]; congr 1; omega, fun q hq => pb q (List.mem_of_mem_take hq)⟩
      have hG : Fp p s t3 := (G1.trans G2).trans G3
      have lf3 := (List.getElem?_eq_some_iff.mp hf3).1
      refine ⟨[some (.mu p), some (.tup (as.map D.int)), some (.int upto), some (.mu st.length), x4, none, some (.mu s1.length), some d, x8, x9, none],
        [some (.mu p), some (.tup (as.map D.int)), some (.int upto), some (.mu st.length), some (.int w), none, some (.mu s1.length), some d, some (.int near), some (.mu t2.length), none],
        (t3 ++ [(ps.take as[w.toNat].toNat).map D.int]).set s1.length (ns.map nD ++ [nD n]), by simp, ?_, ⟨_, _, _, _, rfl⟩, (((q3.app _).set lf _).mono (by omega)), ?_, ns ++ [n], ?_, by simp [hn], hg.snoc hVn⟩
      · have hlt : ns.length < 100000 := by omega
        have hf4 : (t3 ++ [(ps.take as[w.toNat].toNat).map D.int])[s1.length]? = some (ns.map nD) := at_app hf3 _
        have hcond : 1 + min as[w.toNat].toNat ps.length < 100000 := by omega
        simp at hf4
        simp [d1, hf1, d2, ← hnear, hps, hat, iw, fSl, hcut, hf4, hlt, hcond, locD, n, nD]
      · exact ((FJ.trans hG).trans (Fp.app _)).set hF1.1 _
      · rw [List.getElem?_set_self (by simp; omega)]; simp) (en := [some (.mu p), some (.tup (as.map D.int)), some (.int upto), some (.mu st.length), none, none, some (.mu s1.length), none, none, none, none]) (st := s3)
    ⟨⟨none, none, none, none, rfl⟩, p3.mono (by omega), hF3, [(o, [])], f3, rfl, g0⟩
  subst he
  simp at hn
  refine ⟨ns, s', ?_, ⟨by omega, by omega, hg⟩, by omega, p'.mono (by simp; omega), F'⟩
  simp only [f__law_written, b__law_written, u_runF, envOf]
  simp [hlv] at heq e1 e3 hl ⊢
  have hr := rng_ok (en := [some (.mu p), some (.tup (as.map D.int)), some (.int upto), some (.mu st.length), none, none, some (.mu s1.length), none, none, none, none]) (st := s1 ++ [[nD (o, [])]]) (m := mCall 2 f__law_draw (mArgs [(mVar 0), (mVar 2)])) (r := r) (st1 := s3) (by simp [e3]) r0 (by omega)
  simp only [nD] at hr hl
  simp at hr
  simp [hlv, heq, e1, hr, hl, hf, tD]
end M2
set_option Elab.async false
set_option linter.all false
set_option maxRecDepth 100000
set_option maxHeartbeats 2000000
namespace M2
open PySem PySem.Spec PyProof.Rows L2
open Classical
theorem lc_parts2 {en : En} {l v : Nat} {acc : List Int} {n : Nd} {s : Sto} {en4 : Int → En} (hs : s[l]? = some (acc.map D.int)) (h3 : en[3]? = some (some (nD n))) (hw : ∀ p, setN 4 (.int p) (wipeE en [4]) = some (en4 p)) (hv : ∀ p, (en4 p)[v]? = some (some (.mu l))) (h4 : ∀ p, (en4 p)[4]? = some (some (.int p)))
    (hm : n.2.length ≤ 1000) (h : ∀ p ∈ n.2, 0 ≤ p ∧ p < (acc.length : Int)) :
    ∃ j, mLc (mIter (mSl (mVar 3) (some (ret (.int 1))) none)) [4] (setN 4) (ret true) (mOp fIx (mVar v) (mVar 4)) en s = some (.ok (.mu s.length), s ++ [(look acc n.2).map D.int] ++ j) := by
  obtain ⟨j, hj⟩ := lc_pure (mi := mIter (mSl (mVar 3) (some (ret (.int 1))) none)) (vs := [4]) (set := setN 4) (elt := mOp fIx (mVar v) (mVar 4)) (en := en) (st := s) (st1 := s)
    (it := ⟨n.2.map D.int, none⟩) (fun k => D.int (acc.getD (n.2.getD k 0).toNat 0)) (by simp [nD, h3, fSl, cutD_1, iterD]) (by simp) (by simp; omega) (fun k d s2 hd => by
      simp only [List.getElem?_map] at hd
      cases hk : n.2[k]? with
      | none => rw [hk] at hd; cases hd
      | some p =>
        rw [hk] at hd
        cases hd
        have hp := h p (List.mem_of_getElem? hk)
        refine ⟨en4 p, [], hw p, ?_⟩
        have e := part_at hp.1 hp.2
        have hs2 := at_app hs s2
        simp [hv p, h4 p, hs2, e, hk])
  refine ⟨j, ?_⟩
  rw [hj]
  simp only [List.length_map, range_look]
def fH2 (acc ps : List Int) : Int := (look acc ps).foldl max 0 + 1
theorem fH_eq {acc ps : List Int} (h : ∀ a ∈ acc, 0 ≤ a) : fH acc ps = fH2 acc ps := by
  unfold fH fH2
  have hn : ∀ x ∈ look acc ps, 0 ≤ x := fun x hx => by
    obtain ⟨p, _, rfl⟩ := List.mem_map.mp hx
    rw [List.getD_eq_getElem?_getD]
    cases e : acc[p.toNat]? with
    | none => exact Int.le_refl 0
    | some a => exact h a (List.mem_of_getElem? e)
  cases e : look acc ps with
  | nil => simp [maxL]
  | cons x xs =>
    have hx := hn x (by rw [e]; exact List.mem_cons_self)
    show 1 + (xs.foldl max x) = (xs.foldl max (max 0 x)) + 1
    rw [show max 0 x = x by omega]; omega
/-- what holds of all numbers so far, step by step -/
theorem runN_all (C : Nat → Int → Prop) (V : Nat → Nd → Prop) {f : List Int → List Int → Int} (up : ∀ i a, C i a → C (i + 1) a) (stp : ∀ (acc : List Int) (n : Nd), V acc.length n → (∀ a ∈ acc, C acc.length a) → C (acc.length + 1) (f acc n.2)) :
    ∀ (ns : List Nd) (acc : List Int), (∀ k n, ns[k]? = some n → V (acc.length + k) n) → (∀ a ∈ acc, C acc.length a) → ∀ a ∈ runN f ns acc, C (acc.length + ns.length) a
  | [], acc, _, h, a, ha => h a ha
  | n :: r, acc, hV, h, a, ha => by
    have := runN_all C V up stp r (acc ++ [f acc n.2]) (fun k m hm => by
      have := hV (k + 1) m hm
      rw [show (acc ++ [f acc n.2]).length + k = acc.length + (k + 1) by simp; omega]
      exact this) (fun b hb => by
      rw [show (acc ++ [f acc n.2]).length = acc.length + 1 by simp]
      rcases List.mem_append.mp hb with hb | hb
      · exact up _ _ (h b hb)
      · simp at hb; subst hb; exact stp acc n (hV 0 n rfl) h) a ha
    rw [show acc.length + (n :: r).length = (acc ++ [f acc n.2]).length + r.length by simp; omega]
    exact this
theorem two_one : ∀ n : Nat, (1 : Int) ≤ 2 ^ n
  | 0 => by decide
  | n + 1 => by
    have := two_one n
    rw [Int.pow_succ]; omega
theorem look_get {acc ps : List Int} {x : Int} (h : x ∈ look acc ps) (hp : ∀ p ∈ ps, 0 ≤ p ∧ p < (acc.length : Int)) : x ∈ acc := by
  obtain ⟨p, hpm, rfl⟩ := List.mem_map.mp h
  have := hp p hpm
  rw [List.getD_eq_getElem?_getD, List.getElem?_eq_getElem (show p.toNat < acc.length by omega)]
  exact List.getElem_mem _
theorem sum_two {xs : List Int} {m : Int} (h2 : xs.length ≤ 2) (h : ∀ x ∈ xs, 0 ≤ x ∧ x < m) (hm : 1 ≤ m) : 0 ≤ xs.sum ∧ xs.sum ≤ 2 * m - 2 := by
  match xs, h2, h with
  | [], _, _ => simp; omega
  | [x], _, h => have := h x (by simp); simp; omega
  | [x, y], _, h => have := h x (by simp); have := h y (by simp); simp; omega
theorem nodes_small {as : List Int} {ns : List Nd} (ha : Ar as) (h : Vt as ns) : ∀ a ∈ runN fN ns [], 0 ≤ a ∧ a < 2 ^ ns.length := by
  have := runN_all (fun i a => 0 ≤ a ∧ a < 2 ^ i) (Vn as) (f := fN) (fun i a h => ⟨h.1, by have := Int.pow_succ (2 : Int) i; omega⟩) (fun acc n hv hall => by
    have h2 := ps_few ha hv
    have hl : (look acc n.2).length ≤ 2 := by unfold look; simpa using h2
    have hpos : (1 : Int) ≤ 2 ^ acc.length := two_one _
    obtain ⟨s1, s2⟩ := sum_two hl (fun x hx => hall x (look_get hx hv.ps)) hpos
    have := Int.pow_succ (2 : Int) acc.length
    unfold fN
    omega) ns [] (by simpa using h.at') (fun _ h => nomatch h)
  simpa using this
theorem heights_small {as : List Int} {ns : List Nd} (h : Vt as ns) : ∀ a ∈ runN fH2 ns [], 0 ≤ a ∧ a ≤ (ns.length : Int) := by
  have := runN_all (fun i a => 0 ≤ a ∧ a ≤ (i : Int)) (Vn as) (f := fH2) (fun i a h => ⟨h.1, by omega⟩) (fun acc n hv hall => by
    unfold fH2
    obtain ⟨h1, h2, h3⟩ := foldl_max (look acc n.2) 0
    rcases h1 with h1 | h1
    · rw [h1]; omega
    · have := hall _ (look_get h1 hv.ps)
      omega) ns [] (by simpa using h.at') (fun _ h => nomatch h)
  simpa using this
theorem heights_eq {as : List Int} : ∀ (ns : List Nd) (acc : List Int), (∀ a ∈ acc, 0 ≤ a) → (∀ k n, ns[k]? = some n → Vn as (acc.length + k) n) → runN fH ns acc = runN fH2 ns acc
  | [], _, _, _ => rfl
  | n :: r, acc, h, hv => by
    have e := fH_eq (ps := n.2) h
    show runN fH r (acc ++ [fH acc n.2]) = runN fH2 r (acc ++ [fH2 acc n.2])
    rw [e]
    refine heights_eq (as := as) r _ (fun a ha => ?_) (fun k m hm => ?_)
    · rcases List.mem_append.mp ha with ha | ha
      · exact h a ha
      · simp at ha; subst ha
        unfold fH2
        have := (foldl_max (look acc n.2) 0).2.1
        omega
    · have := hv (k + 1) m hm
      rw [show (acc ++ [fH2 acc n.2]).length + k = acc.length + (k + 1) by simp; omega]
      exact this
theorem lst_mem {xs : List Int} (h : 0 < xs.length) : lst xs ∈ xs := by
  unfold lst
  rw [List.getD_eq_getElem?_getD, List.getElem?_eq_getElem (show xs.length - 1 < xs.length by omega)]
  exact List.getElem_mem _
theorem runN_snoc (f : List Int → List Int → Int) : ∀ (ns : List Nd) (n : Nd) (acc : List Int), runN f (ns ++ [n]) acc = runN f ns acc ++ [f (runN f ns acc) n.2]
  | [], _, _ => rfl
  | m :: r, n, acc => runN_snoc f r n (acc ++ [f acc m.2])
theorem r_maxL0 {l : Nat} {xs : List Int} {st : Sto} (h : st[l]? = some ((0 :: xs).map D.int)) : fMaxL [.mu l] st = some (.int (xs.foldl max 0), st) := by
  simp only [fMaxL, onInts, h, Option.bind_some, intsD_map, maxL, Option.map_some]
theorem r_app {en : En} {s s' : Sto} {l v : Nat} {m : MM D} {d : D} {ds : List D} (hv : en[v]? = some (some (.mu l))) (hm : m en s = some (.ok d, s')) (hd : s'[l]? = some ds) (hl : ds.length < 100000) :
    sExpr (mApp (mVar v) m) en s = some (.nx, en, s'.set l (ds ++ [d])) := by
  simp [hv, hm, hd, hl, locD]
theorem r_seq {a b : MS} {en en1 : En} {s s1 : Sto} (h : a en s = some (.nx, en1, s1)) : sSeq a b en s = b en1 s1 := by
  rw [u_sSeq, h]
theorem at0 {st : Sto} {x : List D} {r : Sto} : (st ++ x :: r)[st.length]? = some x := by
  rw [List.getElem?_append_right (Nat.le_refl _)]; simp
theorem at1 {st : Sto} {x y : List D} {r : Sto} : (st ++ x :: y :: r)[st.length + 1]? = some y := by
  rw [List.getElem?_append_right (by omega)]; simp
theorem set0 {st : Sto} {x z : List D} {r : Sto} : (st ++ x :: r).set st.length z = st ++ z :: r := by
  rw [List.set_append_right _ _ (Nat.le_refl _)]; simp
theorem set1 {st : Sto} {x y z : List D} {r : Sto} : (st ++ x :: y :: r).set (st.length + 1) z = st ++ x :: z :: r := by
  rw [List.set_append_right _ _ (by omega)]; simp
theorem r_due {as : List Int} {ns : List Nd} (ha : Ar as) (h : Vt as ns) (st : Sto) : ∃ l j, f__law_due [tD ns] st = some (.ok (.mu l), st ++ j) ∧ st.length ≤ l ∧ (st ++ j)[l]? = some [.int (lst (runN fN ns [])), .int (lst (runN fH2 ns []))] := by
  let A (xs : List Nd) : List D := (runN fN xs []).map D.int
  let B (xs : List Nd) : List D := (runN fH2 xs []).map D.int
  let J : Nat → En → Sto → Prop := fun i en s => (∃ x, en = [some (tD ns), some (.mu st.length), some (.mu (st.length + 1)), x, none]) ∧ ∃ j, s = st ++ (A (ns.take i) :: B (ns.take i) :: j)
  obtain ⟨en', s', hl, ⟨x, he⟩, j', hs'⟩ := loop_gen (set := setN 3) (it := ⟨ns.map nD, none⟩)
    (body := (sSeq (sExpr (mApp (mVar 1) (mOp fAdd (ret (.int 1)) (mBlt fSum (mArgs [(mLc (mIter (mSl (mVar 3) (some (ret (.int 1))) none)) [4] (setN 4) (ret true) (mOp fIx (mVar 1) (mVar 4)))])))))
    (sSeq (sExpr (mApp (mVar 2) (mOp fAdd (mBlt fMaxL (mArgs [(mOp fAdd (mLst [(ret (.int 0))]) (mLc (mIter (mSl (mVar 3) (some (ret (.int 1))) none)) [4] (setN 4) (ret true) (mOp fIx (mVar 2) (mVar 4))))])) (ret (.int 1)))))
    sNx))) J rfl (fun i d en s hd ⟨⟨x, he⟩, j, hs⟩ => by
      subst he hs
      rw [List.getElem?_map] at hd
      cases hn : ns[i]? with
      | none => rw [hn] at hd; cases hd
      | some n =>
        rw [hn] at hd
        cases hd
        have hil := (List.getElem?_eq_some_iff.mp hn).1
        have hv := h.at' i n hn
        have few := ps_few ha hv
        have hfw := h.few
        have lt : (ns.take i).length = i := by rw [List.length_take]; omega
        have lA : (runN fN (ns.take i) []).length = i := by rw [runN_len, lt]; simp
        have lB : (runN fH2 (ns.take i) []).length = i := by rw [runN_len, lt]; simp
        obtain ⟨XA, hXA⟩ : ∃ X, X = runN fN (ns.take i) [] := ⟨_, rfl⟩
        obtain ⟨XB, hXB⟩ : ∃ X, X = runN fH2 (ns.take i) [] := ⟨_, rfl⟩
        have tk : ns.take (i + 1) = ns.take i ++ [n] := by rw [List.take_add_one, hn]; rfl
        have eA : A (ns.take (i + 1)) = XA.map D.int ++ [.int (fN XA n.2)] := by show (runN fN (ns.take (i + 1)) []).map D.int = _; rw [tk, runN_snoc, ← hXA]; simp
        have eB : B (ns.take (i + 1)) = XB.map D.int ++ [.int (fH2 XB n.2)] := by show (runN fH2 (ns.take (i + 1)) []).map D.int = _; rw [tk, runN_snoc, ← hXB]; simp
        have eA0 : A (ns.take i) = XA.map D.int := by rw [hXA]
        have eB0 : B (ns.take i) = XB.map D.int := by rw [hXB]
        rw [← hXA] at lA
        rw [← hXB] at lB
        rw [eA0, eB0]
        obtain ⟨en, hen⟩ : ∃ en : En, en = [some (tD ns), some (.mu st.length), some (.mu (st.length + 1)), some (nD n), none] := ⟨_, rfl⟩
        obtain ⟨s, hs⟩ : ∃ s, s = st ++ (XA.map D.int :: XB.map D.int :: j) := ⟨_, rfl⟩
        obtain ⟨j1, h1⟩ := lc_parts2 (en := en) (l := st.length) (v := 1) (acc := XA) (n := n) (s := s)
          (en4 := fun p => [some (tD ns), some (.mu st.length), some (.mu (st.length + 1)), some (nD n), some (.int p)]) (by rw [hs]; exact at0) (by rw [hen]; rfl) (fun p => by rw [hen]; simp [wipeE]) (fun p => rfl) (fun p => rfl) (by omega) (by rw [lA]; exact hv.ps)
        have hsum : fSum [.mu s.length] (s ++ [(look XA n.2).map D.int] ++ j1) = some (.int (look XA n.2).sum, s ++ [(look XA n.2).map D.int] ++ j1) :=
          r_sum (by rw [List.append_assoc, List.getElem?_append_right (Nat.le_refl _)]; simp)
        have d1 := r_app (en := en) (v := 1) (l := st.length) (s := s) (s' := s ++ [(look XA n.2).map D.int] ++ j1) (m := mOp fAdd (ret (.int 1)) (mBlt fSum (mArgs [(mLc (mIter (mSl (mVar 3) (some (ret (.int 1))) none)) [4] (setN 4) (ret true) (mOp fIx (mVar 1) (mVar 4)))]))) (d := .int (fN XA n.2)) (ds := XA.map D.int) (by rw [hen]; rfl)
          (by simp only [u_mOp, u_bnd, u_ret, u_mBlt, u_mArgs1, u_mArgs0, h1, u_stm, hsum, u_add, Option.map_some, fN]) (by rw [hs, List.append_assoc, List.append_assoc]; exact at0) (by simp; omega)
        obtain ⟨s1, hs1⟩ : ∃ s1, s1 = (s ++ [(look XA n.2).map D.int] ++ j1).set st.length (XA.map D.int ++ [.int (fN XA n.2)]) := ⟨_, rfl⟩
        have hs1' : s1 = st ++ ((XA.map D.int ++ [.int (fN XA n.2)]) :: XB.map D.int :: (j ++ [(look XA n.2).map D.int] ++ j1)) := by
          rw [hs1, hs, List.append_assoc, List.append_assoc]
          rw [show (XA.map D.int :: XB.map D.int :: j) ++ ([(look XA n.2).map D.int] ++ j1) = XA.map D.int :: XB.map D.int :: (j ++ [(look XA n.2).map D.int] ++ j1) by simp]
          exact set0
        rw [← hs1] at d1
        obtain ⟨j2, h2⟩ := lc_parts2 (en := en) (l := st.length + 1) (v := 2) (acc := XB) (n := n)
          (s := s1 ++ [[D.int 0]])
          (en4 := fun p => [some (tD ns), some (.mu st.length), some (.mu (st.length + 1)), some (nD n), some (.int p)]) (by rw [hs1', List.append_assoc]; exact at1) (by rw [hen]; rfl) (fun p => by rw [hen]; simp [wipeE]) (fun p => rfl) (fun p => rfl) (by omega) (by rw [lB]; exact hv.ps)
        have ll : (look XB n.2).length ≤ 2 := by unfold look; simpa using few
        have hadd : fAdd (D.mu s1.length) (D.mu (s1 ++ [[D.int 0]]).length) (s1 ++ [[D.int 0]] ++ [(look XB n.2).map D.int] ++ j2) = some (.mu (s1 ++ [[D.int 0]] ++ [(look XB n.2).map D.int] ++ j2).length, s1 ++ [[D.int 0]] ++ [(look XB n.2).map D.int] ++ j2 ++ [(0 :: look XB n.2).map D.int]) := by
          have q1 : (s1 ++ [[D.int 0]] ++ [(look XB n.2).map D.int] ++ j2)[s1.length]? = some [.int 0] := by
            rw [List.append_assoc, List.append_assoc]; exact at0
          have q2 : (s1 ++ [[D.int 0]] ++ [(look XB n.2).map D.int] ++ j2)[(s1 ++ [[D.int 0]]).length]? = some ((look XB n.2).map D.int) := by rw [List.append_assoc (s1 ++ [[D.int 0]])]; exact at0
          rw [u_addM, q1, q2]
          simp only []
          rw [if_pos (by simp; omega)]
          rfl
        have hmax : fMaxL [.mu (s1 ++ [[D.int 0]] ++ [(look XB n.2).map D.int] ++ j2).length] (s1 ++ [[D.int 0]] ++ [(look XB n.2).map D.int] ++ j2 ++ [(0 :: look XB n.2).map D.int]) = some (.int ((look XB n.2).foldl max 0), s1 ++ [[D.int 0]] ++ [(look XB n.2).map D.int] ++ j2 ++ [(0 :: look XB n.2).map D.int]) := r_maxL0 at0
        have d2 := r_app (en := en) (v := 2) (l := st.length + 1) (s := s1) (s' := s1 ++ [[D.int 0]] ++ [(look XB n.2).map D.int] ++ j2 ++ [(0 :: look XB n.2).map D.int]) (m := (mOp fAdd (mBlt fMaxL (mArgs [(mOp fAdd (mLst [(ret (.int 0))]) (mLc (mIter (mSl (mVar 3) (some (ret (.int 1))) none)) [4] (setN 4) (ret true) (mOp fIx (mVar 2) (mVar 4))))])) (ret (.int 1)))) (d := .int (fH2 XB n.2)) (ds := XB.map D.int) (by rw [hen]; rfl)
          (by
            have c : ([D.int 0] : List D).length < 100000 := by decide
            simp only [u_mOp, u_bnd, u_ret, u_mBlt, u_mArgs1, u_mArgs0, u_mLst, u_mNewL, if_pos c, h2, u_stm, hadd, hmax, u_add, Option.map_some, fH2]) (by rw [hs1']; simp only [List.append_assoc]; exact at1) (by simp; omega)
        refine ⟨en, en, st ++ ((XA.map D.int ++ [.int (fN XA n.2)]) :: (XB.map D.int ++ [.int (fH2 XB n.2)]) :: (j ++ [(look XA n.2).map D.int] ++ j1 ++ [[D.int 0]] ++ [(look XB n.2).map D.int] ++ j2 ++ [(0 :: look XB n.2).map D.int])), by rw [hen]; simp, ?_, ⟨some (nD n), hen⟩, _, by rw [eA, eB]⟩
        rw [← hs, r_seq d1, r_seq d2, u_sNx]
        congr 3
        rw [hs1']
        simp only [List.append_assoc, List.cons_append]
        rw [set1]) (en := [some (tD ns), some (.mu st.length), some (.mu (st.length + 1)), none, none]) (st := st ++ [[], []]) ⟨⟨none, rfl⟩, [], by simp [A, B, runN]⟩
  have hA : ns.take (ns.map nD).length = ns := by simp
  simp only [hA] at hs'
  have n0 := h.ne
  have lA : 0 < (runN fN ns []).length := by rw [runN_len]; omega
  have lB : 0 < (runN fH2 ns []).length := by rw [runN_len]; omega
  have a1 := atI_last lA
  have a2 := atI_last lB
  refine ⟨s'.length, A ns :: B ns :: j' ++ [[.int (lst (runN fN ns [])), .int (lst (runN fH2 ns []))]], ?_, ?_, ?_⟩
  · simp only [tD] at hl he ⊢
    simp only [f__law_due, b__law_due, u_runF, envOf]
    simp [iterD, setTup, setT]
    rw [hl]
    subst he
    have t1 : s'[st.length]? = some (A ns) := by rw [hs']; exact at0
    have t2 : s'[st.length + 1]? = some (B ns) := by rw [hs']; exact at1
    simp [t1, t2, A, B, a1, a2, hs']
  · rw [hs']; simp
  · rw [hs']
    rw [show st ++ (A ns :: B ns :: j' ++ [[D.int (lst (runN fN ns [])), D.int (lst (runN fH2 ns []))]]) = (st ++ A ns :: B ns :: j') ++ [[D.int (lst (runN fN ns [])), D.int (lst (runN fH2 ns []))]] by simp]
    exact at0
end M2
set_option Elab.async false
set_option linter.all false
set_option maxRecDepth 100000
set_option maxHeartbeats 2000000
namespace M2
open PySem PySem.Spec PyProof.Rows L2
open Classical
/-! ### repr of data with short integers -/
structure Rp (W : Nat) (p : PyData) : Prop where
  can : p.canLay0 = true
  sho : p.showable = true
  sht : p.intsShort 150 = true
  wt : p.weight ≤ W
theorem Rp.int {i : Int} (h : i.natAbs < 2 ^ 110) : Rp 110 (.int i) := by
  have hl : i.natAbs.log2 < 110 := by
    by_cases h0 : i.natAbs = 0
    · rw [h0]; decide
    · exact (Nat.log2_lt h0).mpr h
  refine ⟨rfl, ?_, ?_, ?_⟩
  · show decide (i.natAbs.log2 < 1920) = true
    exact decide_eq_true (by omega)
  · show decide ((PyData.shown (.int i)).length ≤ 150) = true
    refine decide_eq_true ?_
    show (Str.ofString (toString i)).length ≤ 150
    rw [PySem.ofString_length]
    have := PySem.int_text_length_le (k := 110) (by decide) hl
    omega
  · unfold PyData.weight
    split <;> omega
theorem Rp.all {W : Nat} : ∀ {xs : List PyData}, (∀ x ∈ xs, Rp W x) → PyData.canLayAll0 xs = true ∧ PyData.showableAll xs = true ∧ PyData.intsShortAll 150 xs = true ∧ PyData.weightAll xs ≤ (W + 1) * xs.length
  | [], _ => ⟨rfl, rfl, rfl, Nat.le_refl 0⟩
  | x :: xs, h => by
    obtain ⟨a, b, c, d⟩ := Rp.all (xs := xs) fun y hy => h y (List.mem_cons_of_mem _ hy)
    have r := h x List.mem_cons_self
    refine ⟨?_, ?_, ?_, ?_⟩
    · show (x.canLay0 && PyData.canLayAll0 xs) = true
      rw [r.can, a]; rfl
    · show (x.showable && PyData.showableAll xs) = true
      rw [r.sho, b]; rfl
    · show (x.intsShort 150 && PyData.intsShortAll 150 xs) = true
      rw [r.sht, c]; rfl
    · have := r.wt
      unfold PyData.weightAll
      rw [List.length_cons, Nat.mul_succ]
      omega
theorem Rp.list {W : Nat} {xs : List PyData} {N : Nat} (h : ∀ x ∈ xs, Rp W x) (hN : (W + 1) * xs.length ≤ N) : Rp N (.list xs) := by
  obtain ⟨a, b, c, d⟩ := Rp.all h
  exact ⟨a, b, c, Nat.le_trans d hN⟩
theorem Rp.tup {W : Nat} {xs : List PyData} {N : Nat} (h : ∀ x ∈ xs, Rp W x) (hN : (W + 1) * xs.length ≤ N) : Rp N (.tuple xs) := by
  obtain ⟨a, b, c, d⟩ := Rp.all h
  exact ⟨a, b, c, Nat.le_trans d hN⟩
theorem r_repr {st : Sto} {d : D} {p : PyData} {W : Nat} (h : dat st 64 d = some p) (r : Rp W p) (hW : W ≤ 100000) : fRepr [d] st = some (.str p.shown, st) := by
  have hz : p.shown.length ≤ sizeLine := by
    have := PyData.shown_le 150 (by decide) p (PyData.leavesShort_of_canLay0 150 p r.can r.sht)
    have := r.wt
    have e : sizeLine = 16777216 := rfl
    rw [e]
    have : (150 + 2) * p.weight ≤ 152 * 100000 := Nat.mul_le_mul_left _ (by omega)
    omega
  unfold fRepr
  simp only [h, Option.bind_some]
  rw [if_pos ⟨r.can, r.sho, hz⟩]
theorem datL_map {α : Type} {st : Sto} {n : Nat} {f : α → D} {g : α → PyData} : ∀ {xs : List α}, (∀ x ∈ xs, dat st n (f x) = some (g x)) → datL st n (xs.map f) = some (xs.map g)
  | [], _ => by simp [datL]
  | x :: xs, h => by
    have e1 := h x List.mem_cons_self
    have e2 := datL_map (xs := xs) fun y hy => h y (List.mem_cons_of_mem _ hy)
    simp [datL, e1, e2]
theorem dat_tup {st : Sto} {n : Nat} {ds : List D} : dat st (n + 1) (.tup ds) = (datL st n ds).map PyData.tuple := by simp [dat]
def nP (n : Nd) : PyData := .tuple (.int n.1 :: n.2.map .int)
def tP (ns : List Nd) : PyData := .tuple (ns.map nP)
theorem dat_tree (st : Sto) (ns : List Nd) : dat st 64 (tD ns) = some (tP ns) := by
  unfold tD
  rw [dat_tup, datL_map (g := nP) fun n _ => by
    unfold nD nP
    rw [dat_tup]
    have := datL_ints st 61 (n.1 :: n.2)
    simp only [List.map_cons] at this
    rw [this]; rfl]
  rfl
theorem rp_tree {as : List Int} {ns : List Nd} (ha : Ar as) (h : Vt as ns) (hl : ns.length ≤ 100) : Rp 34000 (tP ns) := by
  refine Rp.tup (W := 334) (fun x hx => ?_) ?_
  · obtain ⟨n, hn, rfl⟩ := List.mem_map.mp hx
    obtain ⟨i, hi⟩ := List.mem_iff_getElem?.mp hn
    have hv := h.at' i n hi
    have few := ps_few ha hv
    have hil := (List.getElem?_eq_some_iff.mp hi).1
    have hs : ∀ y ∈ (n.1 :: n.2), y.natAbs < 2 ^ 110 := fun y hy => by
      have c : (1000 : Nat) < 2 ^ 110 := by decide
      have := hv.lo
      have := hv.hi
      have := ha.2.1
      rcases List.mem_cons.mp hy with rfl | hy
      · omega
      · have := hv.ps y hy; omega
    have : Rp 333 (.tuple ((n.1 :: n.2).map PyData.int)) := Rp.tup (W := 110) (fun x hx => by
      obtain ⟨y, hy, rfl⟩ := List.mem_map.mp hx
      exact Rp.int (hs y hy)) (by simp; omega)
    exact ⟨this.can, this.sho, this.sht, Nat.le_trans this.wt (by decide)⟩
  · simp; omega
theorem rp_two {l : Nat} {st : Sto} {a b : Int} (h : st[l]? = some [.int a, .int b]) (ha : 0 ≤ a ∧ a < 2 ^ 100) (hb : 0 ≤ b ∧ b < 2 ^ 100) : fRepr [.mu l] st = some (.str (PyData.list [.int a, .int b]).shown, st) := by
  have e : dat st 64 (.mu l) = some (.list [.int a, .int b]) := by
    rw [dat_mu h]
    have := datL_ints st 62 [a, b]
    simp only [List.map_cons, List.map_nil] at this
    rw [this]; rfl
  have sm : ∀ x : Int, 0 ≤ x ∧ x < 2 ^ 100 → x.natAbs < 2 ^ 110 := fun x hx => by
    have c : ((2 : Int) ^ 100) = ((2 ^ 100 : Nat) : Int) := by decide
    have d : (2 : Nat) ^ 100 < 2 ^ 110 := by decide
    rw [c] at hx
    omega
  refine r_repr (W := 222) e (Rp.list (W := 110) (fun x hx => ?_) (by simp)) (by decide)
  rcases List.mem_cons.mp hx with rfl | hx
  · exact Rp.int (sm a ha)
  · simp at hx; subst hx; exact Rp.int (sm b hb)
theorem r_same {l k : Nat} {st : Sto} {a b : Int} (h : st[l]? = some [.int a, .int b]) (h2 : st[k]? = some [.int a, .int b]) (ha : 0 ≤ a ∧ a < 2 ^ 100) (hb : 0 ≤ b ∧ b < 2 ^ 100) : f__law_same [.mu l, .mu k] st = some (.ok (.bl true), st) := by
  have e1 := rp_two h ha hb
  have e2 := rp_two h2 ha hb
  have e3 : ∀ t : Str, fEqA (.str t) (.str t) st = some (.bl true, st) := fun t => by simp [fEqA]
  simp only [f__law_same, b__law_same, u_runF, envOf]
  simp [e1, e2, e3]
end M2
set_option Elab.async false
set_option linter.all false
set_option maxRecDepth 100000
set_option maxHeartbeats 2000000
namespace M2
open PySem PySem.Spec PyProof.Rows L2
open Classical
noncomputable abbrev mTurn : MS := (sSeq (sIf (mNot (mTru (mCall 2 f__law_same (mArgs [(mLst [(mCall 2 f_nodes (mArgs [(mVar 6), (mVar 7)])), (mCall 2 f_height (mArgs [(mVar 6), (mVar 7)]))]), (mVar 9)])))) (sSeq (sRet (ret (.bl false)))
    sNx) sNx)
    sNx)
theorem r_turn {as : List Int} {ns : List Nd} {en : En} {s : Sto} {l : Nat} (ha : Ar as) (h : Vt as ns) (hl : ns.length ≤ 100) (e6 : en[6]? = some (some (.tup (as.map D.int)))) (e7 : en[7]? = some (some (tD ns))) (e9 : en[9]? = some (some (.mu l)))
    (hs : s[l]? = some [.int (lst (runN fN ns [])), .int (lst (runN fH2 ns []))]) : ∃ j, mTurn en s = some (.nx, en, s ++ j) := by
  obtain ⟨j1, h1⟩ := r_nodes ha h s
  obtain ⟨j2, h2⟩ := r_height ha h (s ++ j1)
  have eh : runN fH ns [] = runN fH2 ns [] := heights_eq (as := as) ns [] (by simp) (by simpa using h.at')
  rw [eh] at h2
  have n0 := h.ne
  have lA : 0 < (runN fN ns []).length := by rw [runN_len]; omega
  have lB : 0 < (runN fH2 ns []).length := by rw [runN_len]; omega
  have bA := nodes_small ha h _ (lst_mem lA)
  have bB := heights_small h _ (lst_mem lB)
  have pw : (2 : Int) ^ ns.length ≤ 2 ^ 100 := by
    have : ∀ k : Nat, (2 : Int) ^ ns.length ≤ 2 ^ (ns.length + k) := fun k => by
      induction k with
      | zero => exact Int.le_refl _
      | succ k ih =>
        rw [← Nat.add_assoc, Int.pow_succ]
        have := two_one (ns.length + k)
        omega
    have e := this (100 - ns.length)
    rwa [show ns.length + (100 - ns.length) = 100 by omega] at e
  have c100 : (100 : Int) < 2 ^ 100 := by decide
  obtain ⟨a, hA⟩ : ∃ a, a = lst (runN fN ns []) := ⟨_, rfl⟩
  obtain ⟨b, hB⟩ : ∃ b, b = lst (runN fH2 ns []) := ⟨_, rfl⟩
  rw [← hA] at h1 bA hs
  rw [← hB] at h2 bB hs
  have h3 := r_same (l := (s ++ j1 ++ j2).length) (k := l) (st := s ++ j1 ++ j2 ++ [[.int a, .int b]]) at0 (by rw [List.append_assoc, List.append_assoc]; exact at_app hs _) ⟨bA.1, by omega⟩ ⟨bB.1, by omega⟩
  have c : (2 : Nat) < 100000 := by decide
  refine ⟨j1 ++ j2 ++ [[.int a, .int b]], ?_⟩
  rw [show s ++ (j1 ++ j2 ++ [[D.int a, D.int b]]) = s ++ j1 ++ j2 ++ [[D.int a, D.int b]] by simp]
  simp only [mTurn, u_sSeq, u_sIf, u_sEx, u_mNot, u_bnd, u_mTru, u_mCall, u_mArgs1, u_mArgs0, u_ret, u_mLst, u_mNewL, u_mVar, e6, e7, e9, Option.join_some, Option.map_some, List.length_cons, List.length_nil, Nat.zero_add, Nat.reduceAdd, if_true, h1, h2, u_stm, c, h3, u_asg, u_truB, Bool.not_true, Bool.false_eq_true, if_false, u_sNx, u_iteS]
end M2
set_option Elab.async false
set_option linter.all false
set_option maxRecDepth 100000
set_option maxHeartbeats 2000000
namespace M2
open PySem PySem.Spec PyProof.Rows L2
open Classical
noncomputable abbrev mLap : MS := (sSeq (sAsg (mCall 1 f__law_arities (mArgs [(mVar 4)])) (setN 6))
    (sSeq (sAsg (mCall 3 f__law_written (mArgs [(mVar 4), (mVar 6), (mOp fIx (mLst [(ret (.int 4)), (ret (.int 12)), (ret (.int 100))]) (mOp fMod (mVar 5) (ret (.int 3))))])) (setN 7))
    (sSeq (sPar 8 9 [(mBlt fRepr (mArgs [(mVar 7)])), (mCall 1 f__law_due (mArgs [(mVar 7)]))])
    (sSeq (sFor (mRng1 (ret (.int 2))) (setN 10) mTurn)
    (sSeq (sIf (mB (mOp fNeA (mBlt fRepr (mArgs [(mVar 7)])) (mVar 8))) (sSeq (sRet (ret (.bl false)))
    sNx) sNx)
    sNx)))))
theorem rng_items {j : Int} {en : En} {s : Sto} (h : 0 ≤ j) (h2 : j ≤ 1000) : mRng1 (ret (.int j)) en s = some (.ok ⟨(List.range j.toNat).map fun (i : Nat) => D.int (i : Int), none⟩, s) := by
  unfold mRng1
  simp only [u_bnd, u_ret, u_lft]
  rw [if_pos (by constructor <;> omega)]
  rfl
theorem lap_upto {lap : Int} : ∃ u : Int, atI [D.int 4, D.int 12, D.int 100] (lap % 3) = some (.int u) ∧ 1 ≤ u ∧ u ≤ 100 := by
  have : lap % 3 = 0 ∨ lap % 3 = 1 ∨ lap % 3 = 2 := by omega
  rcases this with e | e | e <;> rw [e]
  · exact ⟨4, rfl, by decide, by decide⟩
  · exact ⟨12, rfl, by decide, by decide⟩
  · exact ⟨100, rfl, by decide, by decide⟩
theorem r_lap {a0 a1 a2 a3 a6 a7 a8 a9 a10 : Option D} {p N : Nat} {lap : Int} {s : Sto} (hp : Pn N s p) (hN : N ≤ 90000000) :
    ∃ b6 b7 b8 b9 b10 s', mLap [a0, a1, a2, a3, some (.mu p), some (.int lap), a6, a7, a8, a9, a10] s = some (.nx, [a0, a1, a2, a3, some (.mu p), some (.int lap), b6, b7, b8, b9, b10], s') ∧ Pn (N + 1020) s' p ∧ Fp p s s' := by
  obtain ⟨as, s1, h1, ha, h0, P1, F1⟩ := r_arities hp (by omega)
  obtain ⟨u, hu, u0, u1⟩ := lap_upto (lap := lap)
  have c3 : (3 : Nat) < 100000 := by decide
  have cm : fMod (.int lap) (.int 3) (s1 ++ [[D.int 4, .int 12, .int 100]]) = some (.int (lap % 3), s1 ++ [[D.int 4, .int 12, .int 100]]) := u_mod (by decide)
  obtain ⟨ns, s2, h2, hv, hl, P2, F2⟩ := r_written (P1.app [[D.int 4, .int 12, .int 100]]) (by omega) ha h0 u0 u1
  have hr : ∀ st : Sto, fRepr [tD ns] st = some (.str (tP ns).shown, st) := fun st => r_repr (dat_tree st ns) (rp_tree ha hv hl) (by decide)
  obtain ⟨l, j, h3, hll, h4⟩ := r_due ha hv s2
  have d1 : (sAsg (mCall 1 f__law_arities (mArgs [(mVar 4)])) (setN 6)) [a0, a1, a2, a3, some (.mu p), some (.int lap), a6, a7, a8, a9, a10] s = some (.nx, [a0, a1, a2, a3, some (.mu p), some (.int lap), some (.tup (as.map D.int)), a7, a8, a9, a10], s1) := by
    simp [h1]
  have q : (s1 ++ [[D.int 4, .int 12, .int 100]])[s1.length]? = some [D.int 4, .int 12, .int 100] := at0
  have d2 : (sAsg (mCall 3 f__law_written (mArgs [(mVar 4), (mVar 6), (mOp fIx (mLst [(ret (.int 4)), (ret (.int 12)), (ret (.int 100))]) (mOp fMod (mVar 5) (ret (.int 3))))])) (setN 7)) [a0, a1, a2, a3, some (.mu p), some (.int lap), some (.tup (as.map D.int)), a7, a8, a9, a10] s1 = some (.nx, [a0, a1, a2, a3, some (.mu p), some (.int lap), some (.tup (as.map D.int)), some (tD ns), a8, a9, a10], s2) := by
    simp [cm, hu, h2]
  have d3 : (sPar 8 9 [(mBlt fRepr (mArgs [(mVar 7)])), (mCall 1 f__law_due (mArgs [(mVar 7)]))]) [a0, a1, a2, a3, some (.mu p), some (.int lap), some (.tup (as.map D.int)), some (tD ns), a8, a9, a10] s2 = some (.nx, [a0, a1, a2, a3, some (.mu p), some (.int lap), some (.tup (as.map D.int)), some (tD ns), some (.str (tP ns).shown), some (.mu l), a10], s2 ++ j) := by
    simp [hr, h3]
  obtain ⟨en', s', hlp, ⟨b10, he⟩, j', hj'⟩ := loop_gen (set := setN 10) (body := mTurn) (it := ⟨(List.range (2 : Int).toNat).map fun (i : Nat) => D.int (i : Int), none⟩)
    (fun _ en st => (∃ x, en = [a0, a1, a2, a3, some (.mu p), some (.int lap), some (.tup (as.map D.int)), some (tD ns), some (.str (tP ns).shown), some (.mu l), x]) ∧ ∃ k, st = s2 ++ j ++ k) rfl
    (fun i d en st hd ⟨⟨x, he⟩, k, hk⟩ => by
      subst he hk
      obtain ⟨j5, h5⟩ := r_turn (en := [a0, a1, a2, a3, some (.mu p), some (.int lap), some (.tup (as.map D.int)), some (tD ns), some (.str (tP ns).shown), some (.mu l), some d]) (s := s2 ++ j ++ k) ha hv hl rfl rfl rfl (at_app h4 k)
      exact ⟨_, _, _, by simp, h5, ⟨_, rfl⟩, k ++ j5, by simp⟩)
    (en := [a0, a1, a2, a3, some (.mu p), some (.int lap), some (.tup (as.map D.int)), some (tD ns), some (.str (tP ns).shown), some (.mu l), a10]) (st := s2 ++ j) ⟨⟨_, rfl⟩, [], by simp⟩
  subst he hj'
  have d4 : (sFor (mRng1 (ret (.int 2))) (setN 10) mTurn) [a0, a1, a2, a3, some (.mu p), some (.int lap), some (.tup (as.map D.int)), some (tD ns), some (.str (tP ns).shown), some (.mu l), a10] (s2 ++ j) = some (.nx, [a0, a1, a2, a3, some (.mu p), some (.int lap), some (.tup (as.map D.int)), some (tD ns), some (.str (tP ns).shown), some (.mu l), b10], s2 ++ j ++ j') := by
    rw [u_sFor, u_sEx, rng_items (by decide) (by decide)]
    exact hlp
  have hne : ∀ (t : Str) (st : Sto), fNeA (.str t) (.str t) st = some (.bl false, st) := fun t st => by simp [fNeA]
  have d5 : (sIf (mB (mOp fNeA (mBlt fRepr (mArgs [(mVar 7)])) (mVar 8))) (sSeq (sRet (ret (.bl false))) sNx) sNx) [a0, a1, a2, a3, some (.mu p), some (.int lap), some (.tup (as.map D.int)), some (tD ns), some (.str (tP ns).shown), some (.mu l), b10] (s2 ++ j ++ j') = some (.nx, [a0, a1, a2, a3, some (.mu p), some (.int lap), some (.tup (as.map D.int)), some (tD ns), some (.str (tP ns).shown), some (.mu l), b10], s2 ++ j ++ j') := by
    simp [hr, hne]
  refine ⟨some (.tup (as.map D.int)), some (tD ns), some (.str (tP ns).shown), some (.mu l), b10, s2 ++ j ++ j', ?_, ?_, ?_⟩
  · rw [mLap, r_seq d1, r_seq d2, r_seq d3, r_seq d4, r_seq d5, u_sNx]
  · have := (P2.app j).app j'
    obtain ⟨a, b, c, e, x0, x1, x2, x3, x4⟩ := this
    exact ⟨a, b, c, e, x0, x1, x2, x3, by omega⟩
  · exact ((F1.trans (Fp.app _)).trans F2).trans ((Fp.app j).trans (Fp.app j'))
end M2
set_option Elab.async false
set_option linter.all false
set_option maxRecDepth 100000
set_option maxHeartbeats 2000000
namespace M2
open PySem PySem.Spec PyProof.Rows L2
open Classical
noncomputable abbrev mCell : MS := (sSeq (sAsg (mCall 1 f__law_pen (mArgs [(mCall 2 f__law_cell (mArgs [(mVar 0), (mVar 3)]))])) (setN 4))
    (sSeq (sFor (mRng1 (ret (.int 14))) (setN 5) mLap)
    sNx))
theorem r_cells {ns : List Int} {a1 a2 a4 a5 a6 a7 a8 a9 a10 : Option D} {k : Nat} {s : Sto} :
    ∃ b4 b5 b6 b7 b8 b9 b10 s', mCell [some (.scr ns), a1, a2, some (.int (k : Int)), a4, a5, a6, a7, a8, a9, a10] s = some (.nx, [some (.scr ns), a1, a2, some (.int (k : Int)), b4, b5, b6, b7, b8, b9, b10], s') := by
  obtain ⟨i, h1⟩ := r_cell ns k s
  obtain ⟨s1, h2, P, F⟩ := r_pen i s
  obtain ⟨p, hp⟩ : ∃ p, p = s.length := ⟨_, rfl⟩
  rw [← hp] at h2 P
  have d1 : (sAsg (mCall 1 f__law_pen (mArgs [(mCall 2 f__law_cell (mArgs [(mVar 0), (mVar 3)]))])) (setN 4)) [some (.scr ns), a1, a2, some (.int (k : Int)), a4, a5, a6, a7, a8, a9, a10] s = some (.nx, [some (.scr ns), a1, a2, some (.int (k : Int)), some (.mu p), a5, a6, a7, a8, a9, a10], s1) := by
    simp [h1, h2]
  obtain ⟨en', s', hlp, ⟨x5, x6, x7, x8, x9, x10, he⟩, P'⟩ := loop_gen (set := setN 5) (body := mLap) (it := ⟨(List.range (14 : Int).toNat).map fun (i : Nat) => D.int (i : Int), none⟩)
    (fun n en st => (∃ x5 x6 x7 x8 x9 x10, en = [some (.scr ns), a1, a2, some (.int (k : Int)), some (.mu p), x5, x6, x7, x8, x9, x10]) ∧ Pn (1020 * n) st p) rfl
    (fun n d en st hd ⟨⟨x5, x6, x7, x8, x9, x10, he⟩, hp⟩ => by
      subst he
      have hd0 := hd
      rw [List.getElem?_map] at hd
      have hn : n < 14 := by
        have := (List.getElem?_eq_some_iff.mp hd0).1
        simpa using this
      rw [List.getElem?_range (by simpa using hn)] at hd
      cases hd
      obtain ⟨b6, b7, b8, b9, b10, s', e, hP, _⟩ := r_lap (a0 := some (.scr ns)) (a1 := a1) (a2 := a2) (a3 := some (.int (k : Int))) (a6 := x6) (a7 := x7) (a8 := x8) (a9 := x9) (a10 := x10) (lap := (n : Int)) hp (by omega)
      exact ⟨_, _, _, by simp, e, ⟨_, _, _, _, _, _, rfl⟩, hP⟩)
    (en := [some (.scr ns), a1, a2, some (.int (k : Int)), some (.mu p), a5, a6, a7, a8, a9, a10]) (st := s1) ⟨⟨_, _, _, _, _, _, rfl⟩, P⟩
  subst he
  refine ⟨some (.mu p), x5, x6, x7, x8, x9, x10, s', ?_⟩
  rw [mCell, r_seq d1]
  rw [u_sSeq, u_sFor, u_sEx, rng_items (by decide) (by decide)]
  simp only [hlp, u_sNx]
/-- the great tree -/
def fullN : List Nd := (0, []) :: (List.range 99).map fun (k : Nat) => ((1 : Int), [(k : Int), (k : Int)])
theorem full_D : tD fullN = .tup (.tup [.int 0] :: (List.range 99).map fun (k : Nat) => D.tup [.int 1, .int (k : Int), .int (k : Int)]) := by
  simp [tD, fullN, nD, Function.comp_def]
theorem full_Vt : Vt [0, 2] fullN := by
  refine ⟨by simp [fullN], by simp [fullN], fun i n h => ?_⟩
  cases i with
  | zero =>
    cases h
    exact ⟨by decide, by decide, rfl, fun p hp => by cases hp⟩
  | succ i =>
    have h' : ((List.range 99).map fun (k : Nat) => ((1 : Int), [(k : Int), (k : Int)]))[i]? = some n := h
    rw [List.getElem?_map] at h'
    cases e : (List.range 99)[i]? with
    | none => rw [e] at h'; cases h'
    | some k =>
      rw [e] at h'
      cases h'
      have hk := List.getElem?_eq_some_iff.mp e
      obtain ⟨h1, h2⟩ := hk
      simp at h2
      subst h2
      exact ⟨by simp, by simp, by simp, fun p hp => by simp at hp; omega⟩
theorem full_Ar : Ar [0, 2] := ⟨by decide, by decide, by decide⟩
theorem full_nodes : lst (runN fN fullN []) = 1267650600228229401496703205375 := by decide +kernel
theorem full_height : lst (runN fH fullN []) = 100 := by decide +kernel
end M2
set_option Elab.async false
set_option linter.all false
set_option maxRecDepth 100000
set_option maxHeartbeats 2000000
namespace M2
open PySem PySem.Spec PyProof.Rows L2
open Classical
theorem rng_of {m : MM D} {j : Int} {en : En} {s s1 : Sto} (hm : m en s = some (.ok (.int j), s1)) (h : 0 ≤ j) (h2 : j ≤ 1000) : mRng1 m en s = some (.ok ⟨(List.range j.toNat).map fun (i : Nat) => D.int (i : Int), none⟩, s1) := by
  unfold mRng1
  simp only [u_bnd, hm, u_lft]
  rw [if_pos (by constructor <;> omega)]
  rfl
theorem ne_lists {st : Sto} {l k : Nat} {a b : Int} (h : st[l]? = some [.int a, .int b]) (h2 : st[k]? = some [.int a, .int b]) : fNeA (.mu l) (.mu k) st = some (.bl false, st) := by
  have e : ∀ l, st[l]? = some [D.int a, .int b] → dat st 64 (.mu l) = some (.list [.int a, .int b]) := fun l h => by
    rw [dat_mu h]
    have := datL_ints st 62 [a, b]
    simp only [List.map_cons, List.map_nil] at this
    rw [this]; rfl
  have c : (PyData.list [.int a, .int b]).canLay0 = true := rfl
  have q : PyData.eqv (.list [.int a, .int b]) (.list [.int a, .int b]) = true := by simp [PyData.eqv, PyData.eqvAll]
  show fNe (.mu l) (.mu k) st = _
  unfold fNe eqD
  rw [e l h, e k h2]
  simp only [c, q, and_self, if_true, Option.map_some, Bool.not_true]
theorem main (ns : List Int) (hns : ns.length ≤ 63) : ∃ st', f_law [.scr ns] [] = some (.ok (.bl true), st') := by
  obtain ⟨j0, h0⟩ := lc_pure (mi := mRng1 (ret (.int 99))) (vs := [2]) (set := setN 2) (elt := mTup [(ret (.int 1)), (mVar 2), (mVar 2)]) (en := [some (.scr ns), none, none, none, none, none, none, none, none, none, none]) (st := []) (st1 := [])
    (it := ⟨(List.range (99 : Int).toNat).map fun (i : Nat) => D.int (i : Int), none⟩) (fun k => D.tup [.int 1, .int (k : Int), .int (k : Int)]) (rng_items (by decide) (by decide)) (by simp) (by simp) (fun k d s hd => by
      have hd0 := hd
      rw [List.getElem?_map] at hd
      have hn : k < 99 := by
        have := (List.getElem?_eq_some_iff.mp hd0).1
        simpa using this
      rw [List.getElem?_range (by simpa using hn)] at hd
      cases hd
      exact ⟨[some (.scr ns), none, some (.int (k : Int)), none, none, none, none, none, none, none, none], [], by simp [wipeE], by simp⟩)
  have d1 : (sAsg (mOp fAdd (mTup [(mTup [(ret (.int 0))])]) (mBlt fTuple (mArgs [(mLc (mRng1 (ret (.int 99))) [2] (setN 2) (ret true) (mTup [(ret (.int 1)), (mVar 2), (mVar 2)]))]))) (setN 1)) [some (.scr ns), none, none, none, none, none, none, none, none, none, none] [] = some (.nx, [some (.scr ns), some (tD fullN), none, none, none, none, none, none, none, none, none], [(List.range 99).map fun (k : Nat) => D.tup [.int 1, .int (k : Int), .int (k : Int)]] ++ j0) := by
    rw [full_D]
    simp at h0
    simp [h0]
  obtain ⟨s1, hs1⟩ : ∃ s1, s1 = [(List.range 99).map fun (k : Nat) => D.tup [.int 1, .int (k : Int), .int (k : Int)]] ++ j0 := ⟨_, rfl⟩
  rw [← hs1] at d1
  obtain ⟨j1, h1⟩ := r_nodes full_Ar full_Vt s1
  obtain ⟨j2, h2⟩ := r_height full_Ar full_Vt (s1 ++ j1)
  rw [full_nodes] at h1
  rw [full_height] at h2
  obtain ⟨G, hG⟩ : ∃ G : Int, G = 1267650600228229401496703205375 := ⟨_, rfl⟩
  rw [← hG] at h1
  have p1 : ∀ st, fPow (.int 2) (.int 64) st = some (.int 18446744073709551616, st) := fun st => by simp [fPow, iop]
  have p2 : ∀ st, fPow (.int 2) (.int 36) st = some (.int 68719476736, st) := fun st => by simp [fPow, iop]
  have p3 : ∀ st, fMul (.int 18446744073709551616) (.int 68719476736) st = some (.int 1267650600228229401496703205376, st) := fun st => u_mul (by decide)
  have p4 : ∀ st, fSub (.int 1267650600228229401496703205376) (.int 1) st = some (.int G, st) := fun st => by rw [hG]; simp
  have c : (2 : Nat) < 100000 := by decide
  have hne := ne_lists (st := s1 ++ j1 ++ j2 ++ [[.int G, .int 100]] ++ [[.int G, .int 100]]) (l := (s1 ++ j1 ++ j2).length) (k := (s1 ++ j1 ++ j2 ++ [[D.int G, .int 100]]).length) (a := G) (b := 100) (by rw [List.append_assoc]; exact at0) at0
  have d2 : (sIf (mB (mOp fNeA (mLst [(mCall 2 f_nodes (mArgs [(mTup [(ret (.int 0)), (ret (.int 2))]), (mVar 1)])), (mCall 2 f_height (mArgs [(mTup [(ret (.int 0)), (ret (.int 2))]), (mVar 1)]))]) (mLst [(mOp fSub (mOp fMul (mOp fPow (ret (.int 2)) (ret (.int 64))) (mOp fPow (ret (.int 2)) (ret (.int 36)))) (ret (.int 1))), (ret (.int 100))]))) (sSeq (sRet (ret (.bl false)))
    sNx) sNx) [some (.scr ns), some (tD fullN), none, none, none, none, none, none, none, none, none] s1 = some (.nx, [some (.scr ns), some (tD fullN), none, none, none, none, none, none, none, none, none], s1 ++ j1 ++ j2 ++ [[.int G, .int 100]] ++ [[.int G, .int 100]]) := by
    have e1 : ([some (.scr ns), some (tD fullN), none, none, none, none, none, none, none, none, none] : En)[1]? = some (some (tD fullN)) := rfl
    simp only [List.map_cons, List.map_nil] at h1 h2
    simp only [u_sIf, u_sEx, u_mB, u_mOp, u_bnd, u_mLst, u_mNewL, u_mCall, u_mArgs1, u_mArgs0, u_ret, u_mTup, u_mVar, e1, Option.join_some, Option.map_some, List.length_cons, List.length_nil, Nat.zero_add, Nat.reduceAdd, if_true, u_lft, c, h1, h2, u_stm, p1, p2, p3, p4, hne, u_boolD, Bool.false_eq_true, if_false, u_iteS, u_sNx]
  obtain ⟨s2, hs2⟩ : ∃ s2, s2 = s1 ++ j1 ++ j2 ++ [[D.int G, .int 100]] ++ [[D.int G, .int 100]] := ⟨_, rfl⟩
  rw [← hs2] at d2
  obtain ⟨v, hv, v0, v3⟩ : ∃ v : Int, (mBlt fMax2 (mArgs [(ret (.int 1)), (mBlt fMin2 (mArgs [(mBlt fLen (mArgs [(mVar 0)])), (ret (.int 3))]))])) [some (.scr ns), some (tD fullN), none, none, none, none, none, none, none, none, none] s2 = some (.ok (.int v), s2) ∧ 0 ≤ v ∧ v ≤ 3 := by
    refine ⟨if (if (3 : Int) < ns.length then 3 else (ns.length : Int)) > 1 then (if (3 : Int) < ns.length then 3 else (ns.length : Int)) else 1, by simp, ?_, ?_⟩
    · split <;> split <;> omega
    · split <;> split <;> omega
  obtain ⟨en', s', hlp, ⟨x2, x3, x4, x5, x6, x7, x8, x9, x10, he⟩⟩ := loop_gen (set := setN 3) (body := mCell) (it := ⟨(List.range v.toNat).map fun (i : Nat) => D.int (i : Int), none⟩)
    (fun n en st => (∃ x2 x3 x4 x5 x6 x7 x8 x9 x10, en = [some (.scr ns), some (tD fullN), x2, x3, x4, x5, x6, x7, x8, x9, x10])) rfl
    (fun n d en st hd ⟨x2, x3, x4, x5, x6, x7, x8, x9, x10, he⟩ => by
      subst he
      have hd0 := hd
      rw [List.getElem?_map] at hd
      have hn : n < v.toNat := by
        have := (List.getElem?_eq_some_iff.mp hd0).1
        simpa using this
      rw [List.getElem?_range hn] at hd
      cases hd
      obtain ⟨b4, b5, b6, b7, b8, b9, b10, s', e⟩ := r_cells (ns := ns) (a1 := some (tD fullN)) (a2 := x2) (a4 := x4) (a5 := x5) (a6 := x6) (a7 := x7) (a8 := x8) (a9 := x9) (a10 := x10) (k := n) (s := st)
      exact ⟨_, _, _, by simp, e, _, _, _, _, _, _, _, _, _, rfl⟩)
    (en := [some (.scr ns), some (tD fullN), none, none, none, none, none, none, none, none, none]) (st := s2) ⟨_, _, _, _, _, _, _, _, _, rfl⟩
  have d3 : (sFor (mRng1 (mBlt fMax2 (mArgs [(ret (.int 1)), (mBlt fMin2 (mArgs [(mBlt fLen (mArgs [(mVar 0)])), (ret (.int 3))]))]))) (setN 3) mCell) [some (.scr ns), some (tD fullN), none, none, none, none, none, none, none, none, none] s2 = some (.nx, en', s') := by
    rw [u_sFor, u_sEx, rng_of hv v0 (by omega)]
    exact hlp
  refine ⟨s', ?_⟩
  have e0 : envOf 11 [D.scr ns] = [some (.scr ns), none, none, none, none, none, none, none, none, none, none] := rfl
  rw [f_law, u_runF, e0, b_law, r_seq d1, r_seq d2, r_seq d3]
  rfl
end M2
open PySem PySem.W PyProof.Rows
set_option maxRecDepth 100000 in
set_option maxHeartbeats 0 in
theorem PySem.Challenge.cw_codepick_k03_nodes_and_heights_holds : PySem.Challenge.rw_codepick_k03_nodes_and_heights.Holds := by
  w_on; o_law; k_head; (case hw => w_witness2)
  k_fill
  refine M2.lawWalk (l := PySem.Challenge.rw_codepick_k03_nodes_and_heights) rfl rfl (fun w h Y => PySem.W.kIn_of Y) M2.main ?F
  case F =>
    intro w mg fa h KX G hmg
    refine' M2.all_mk KX G hmg ?e0 ?e1 ?a0 ?l0 ?c0 ?k0 ?a1 ?l1 ?c1 ?k1 ?a2 ?l2 ?c2 ?k2 ?a3 ?l3 ?c3 ?k3 ?a4 ?l4 ?c4 ?k4 ?a5 ?l5 ?c5 ?k5 ?a6 ?l6 ?c6 ?k6 ?a7 ?l7 ?c7 ?k7 ?a8 ?l8 ?c8 ?k8 ?a9 ?l9 ?c9 ?k9 ?a10 ?l10 ?c10 ?k10 ?a11 ?l11 ?c11 ?k11 ?a12 ?l12 ?c12 ?k12 ?a13 ?l13 ?c13 ?k13 ?a14 ?l14 ?c14 ?k14 ?a15 ?l15 ?c15 ?k15 ?a16 ?l16 ?c16 ?k16 ?a17 ?l17 ?c17 ?k17 ?a18 ?l18 ?c18 ?k18 ?z0 ?z1 ?z2 ?z3 ?z4 ?z5 ?z6 ?z7 ?z8 ?z9 ?z10 ?z11 ?z12
    (case e0 => k_is); (case e1 => k_is); (case a0 => k_is); (case l0 => k_is); (case c0 => k_is); (case k0 => k_is)
    (case a1 => k_is); (case l1 => k_is); (case c1 => k_is); (case k1 => k_is); (case a2 => k_is); (case l2 => k_is)
    (case c2 => k_is); (case k2 => k_is); (case a3 => k_is); (case l3 => k_is); (case c3 => k_is); (case k3 => k_is)
    (case a4 => k_is); (case l4 => k_is); (case c4 => k_is); (case k4 => k_is); (case a5 => k_is); (case l5 => k_is)
    (case c5 => k_is); (case k5 => k_is); (case a6 => k_is); (case l6 => k_is); (case c6 => k_is); (case k6 => k_is)
    (case a7 => k_is); (case l7 => k_is); (case c7 => k_is); (case k7 => k_is); (case a8 => k_is); (case l8 => k_is)
    (case c8 => k_is); (case k8 => k_is); (case a9 => k_is); (case l9 => k_is); (case c9 => k_is); (case k9 => k_is)
    (case a10 => k_is); (case l10 => k_is); (case c10 => k_is); (case k10 => k_is); (case a11 => k_is); (case l11 => k_is)
    (case c11 => k_is); (case k11 => k_is); (case a12 => k_is); (case l12 => k_is); (case c12 => k_is); (case k12 => k_is)
    (case a13 => k_is); (case l13 => k_is); (case c13 => k_is); (case k13 => k_is); (case a14 => k_is); (case l14 => k_is)
    (case c14 => k_is); (case k14 => k_is); (case a15 => k_is); (case l15 => k_is); (case c15 => k_is); (case k15 => k_is)
    (case a16 => k_is); (case l16 => k_is); (case c16 => k_is); (case k16 => k_is); (case a17 => k_is); (case l17 => k_is)
    (case c17 => k_is); (case k17 => k_is); (case a18 => k_is); (case l18 => k_is); (case c18 => k_is); (case k18 => k_is)
    (case z0 => k_is); (case z1 => k_is); (case z2 => k_is); (case z3 => k_is); (case z4 => k_is); (case z5 => k_is)
    (case z6 => k_is); (case z7 => k_is); (case z8 => k_is); (case z9 => k_is); (case z10 => k_is); (case z11 => k_is)
    (case z12 => k_is)
