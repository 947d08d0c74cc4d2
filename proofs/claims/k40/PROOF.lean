import PyProof.Rows.All
import Wide.All
import OpenK.AllK
import Wide.FinOn
import HandS.ForMost
import HandS.ForExc
import HandS.Walk
import HandS.Wide
import HandS.IsInst
import HandS.TupAny
import HandS.RaiseMore
import HandS.Evl
import HandS.Lambda
import HandS.EndTab
import HandS.ExcIs
import HandS.HotCalls
import HandS.ExcValue
import HandS.ExcInit
import HandS.Style
import HandS.ExcOwn
import HandS.Ends
import HandS.SortKw
import KE.GoesEnum
import HandS.TupMul
import KE.KRevSl
import KE.RegKIsAll
import KE.GoesZip
import KE.GoesMore
import HandS.Zip
import KE.KeyNested
import HandS.Star
import HandS.DictTup
import HandS.TupLen
import PyProof.DictMoreH
import KE.KIndexOf
import PyProof.AutoSeq1
import KE.KExcIs
import HandS.MakeKwOnly
import HandS.ExcField
import HandS.Flow
import HandS.NoneIn
import HandS.Conv
import PySem.Challenge.RW_codepick_k40_contexts_known
set_option Elab.async false
set_option linter.all false
set_option maxRecDepth 100000
set_option maxHeartbeats 2000000
namespace M2
open PySem PySem.Spec PyProof.Rows L2

/-- the tables of code objects that may grow, and the name that their code objects bear -/
class Tb where
  T : List (Addr × Str)
variable [Tb]
abbrev NT (o : HO) : Prop := ∀ ps, o ≠ .tbl ps
/-- where a class of the module's stands -/
def clsA (K : PySem.W.Frag) (n : Str) : Addr := match PySem.W.nsIn K mainGlobals n with
  | some (some (.ref a)) => a
  | _ => 0
/-- what is raised: the class's name, the fields -/
structure Er where
  n : Str
  fs : List (Str × Int) := []
def Fly (K : PySem.W.Frag) (E : XK) (e : Er) (H : Hp) : Prop := match e.fs with
  | [] => E (.ref (clsA K e.n)) none H
  | fs => ∀ dd, H dd = some (.xd (fs.map fun p => (p.1, V.int p.2))) → E (.ref (clsA K e.n)) (some dd) H
/-! ### data, the store of lists, the relation to the heap -/
inductive D where
  | non | bl (b : Bool) | int (i : Int) | str (x : Str) | tup (ds : List D) | mu (l : Nat) | scr (ns : List Int) | ty (n : String) | cls (C : Addr) | dic (kvs : List (Key × D)) | cln (n : Str) | key (ns : List Int) | mdt (l : Nat) | exc (n : Str) | exf (n : Str) (fs : List (Str × Int)) | cxd (a dd : Addr) (fs : List (Str × Int)) | tpn (ns : List Int) | obj (n : Str) (l : Nat)
abbrev Sto := List (List D)
abbrev En := List (Option D)

def SqR (K : PySem.W.Frag) (H : Hp) (a : Addr) (xs : List V) : Prop :=
  (∃ o, H a = some (.frz o (.lst xs))) ∨
    ∃ (o : Obj) (its : Array Value) (n : Nat), K.lookup a = some o ∧ o.cls = .type "list" ∧ o.dict = none ∧ o.data = .seq its n ∧ its.size ≤ sizeLine ∧ Vals xs its.toList

mutual
inductive VD (K : PySem.W.Frag) (H : Hp) (φ : List Addr) : V → D → Prop
  | non : VD K H φ .non .non
  | bl {b} : VD K H φ (.bl b) (.bl b)
  | int {i} : VD K H φ (.int i) (.int i)
  | str {x} : VD K H φ (.str x) (.str x)
  | tup {a vs ds} : SqT K H a vs → VDs K H φ vs ds → VD K H φ (.ref a) (.tup ds)
  | mu {l a} : φ[l]? = some a → (∃ vs, H a = some (.lst vs)) → VD K H φ (.ref a) (.mu l)
  | key {a} {ns : List Int} : H a = some (.tup (ns.map V.int)) → VD K H φ (.ref a) (.key ns)
  | mdt {l a} : φ[l]? = some a → (∃ kvs, H a = some (.dT kvs)) → VD K H φ (.ref a) (.mdt l)
  | obj {l a n} : φ[l]? = some a → (∃ dx fs, H a = some (.ins (clsA K n) dx fs)) → VD K H φ (.ref a) (.obj n l)
  | scr {a} {ns : List Int} : SqR K H a (ns.map V.int) → VD K H φ (.ref a) (.scr ns)
  | ty {n} : VD K H φ (.ty n) (.ty n)
  | cls {C} : VD K H φ (.ref C) (.cls C)
  | cln {n} : VD K H φ (.ref (clsA K n)) (.cln n)
  | exc {a n} : H a = some (ExO (.ref (clsA K n)) a) → VD K H φ (.ref a) (.exc n)
  | exf {a dd n} {fs : List (Str × Int)} : H a = some (exo a (clsA K n) (some dd)) → H dd = some (exd dd (fs.map fun p => (p.1, V.int p.2))) → VD K H φ (.ref a) (.exf n fs)
  | tpn {a o} {ns : List Int} : H a = some (.frz o (.tup (ns.map V.int))) → o.dict = none → VD K H φ (.ref a) (.tpn ns)
  | cxd {a dd} {fs : List (Str × Int)} : H dd = some (.xd (fs.map fun p => (p.1, V.int p.2))) → VD K H φ (.ref a) (.cxd a dd fs)
  | dic {a} {kws : List (Key × V)} {kvs : List (Key × D)} : H a = some (.dK kws) → kws.map (·.1) = kvs.map (·.1) → VDs K H φ (kws.map (·.2)) (kvs.map (·.2)) → VD K H φ (.ref a) (.dic kvs)
inductive VDs (K : PySem.W.Frag) (H : Hp) (φ : List Addr) : List V → List D → Prop
  | nil : VDs K H φ [] []
  | cons {v vs d ds} : VD K H φ v d → VDs K H φ vs ds → VDs K H φ (v :: vs) (d :: ds)
end

/-- what may be changed where it stands -/
inductive Mut : HO → Prop
  | lst (xs) : Mut (.lst xs)
  | dT (kvs) : Mut (.dT kvs)
  | ins (C dx fs) : Mut (.ins C dx fs)
structure KX (H : Hp) (φ : List Addr) (H' : Hp) (φ' : List Addr) : Prop where
  pre : ∃ ψ, φ' = φ ++ ψ ∧ ∀ a ∈ ψ, ∀ o, H a = some o → ¬ NT o
  keep : ∀ b o, H b = some o → NT o → b ∉ φ → H' b = some o
  imm : ∀ b o, H b = some o → NT o → ¬ Mut o → H' b = some o
  grow : ∀ b o, H b = some o → NT o → ∃ o', H' b = some o' ∧ NT o'
  kl : ∀ b, (∃ vs, H b = some (.lst vs)) → ∃ vs, H' b = some (.lst vs)
  kd : ∀ b, (∃ kvs, H b = some (.dT kvs)) → ∃ kvs, H' b = some (.dT kvs)
  ki : ∀ b C, (∃ dx fs, H b = some (.ins C dx fs)) → ∃ dx fs, H' b = some (.ins C dx fs)
/-- a list at l -/
structure MuAt (H : Hp) (φ : List Addr) (l : Nat) (a : Addr) : Prop where
  at' : φ[l]? = some a
  lst : ∃ vs, H a = some (.lst vs)
structure DcAt (H : Hp) (φ : List Addr) (l : Nat) (a : Addr) : Prop where
  at' : φ[l]? = some a
  dct : ∃ kvs, H a = some (.dT kvs)
/-- a dict's entry, and how the store tells it -/
def eV (e : List Int × Int) : List Key × V := (e.1.map Sum.inl, .int e.2)
def eD (e : List Int × Int) : D := .tup [.tup (e.1.map D.int), .int e.2]
/-- an instance at l -/
structure ObAt (K : PySem.W.Frag) (H : Hp) (φ : List Addr) (n : Str) (l : Nat) (a : Addr) : Prop where
  at' : φ[l]? = some a
  ins : ∃ dx fs, H a = some (.ins (clsA K n) dx fs)
/-- an attribute, as the store tells it -/
def eA (e : Str × D) : D := .tup [.str e.1, e.2]
inductive RowR (K : PySem.W.Frag) (H : Hp) (φ : List Addr) (a : Addr) (ds : List D) : Prop
  | lst {vs} : H a = some (.lst vs) → VDs K H φ vs ds → RowR K H φ a ds
  | dct {ps : List (List Int × Int)} : H a = some (.dT (ps.map eV)) → ds = ps.map eD → RowR K H φ a ds
  | ins {C dx} {fs : List (Str × V)} {es : List (Str × D)} : H a = some (.ins C dx fs) → fs.map (·.1) = es.map (·.1) → VDs K H φ (fs.map (·.2)) (es.map (·.2)) → ds = es.map eA → RowR K H φ a ds

structure RS (K : PySem.W.Frag) (H : Hp) (φ : List Addr) (st : Sto) : Prop where
  len : φ.length = st.length
  nd : φ.Nodup
  row : ∀ (l : Nat) (a : Addr) (ds : List D), φ[l]? = some a → st[l]? = some ds → RowR K H φ a ds
  tabs : LamX.Tabs Tb.T H

structure RE (K : PySem.W.Frag) (H : Hp) (φ : List Addr) (σ : L2.St) (en : En) : Prop where
  len : σ.length = en.length
  get : ∀ (i : Nat) (d : D), en[i]? = some (some d) → ∃ v, σ[i]? = some (some v) ∧ VD K H φ v d

section
variable {K : PySem.W.Frag} {H H' H1 H2 : Hp} {φ φ' φ1 φ2 : List Addr} {st st' : Sto} {v : V} {d : D} {vs : List V} {ds : List D} {a : Addr}
theorem nt_tup {xs : List V} : NT (.tup xs) := fun _ z => nomatch z
theorem nt_lst {xs : List V} : NT (.lst xs) := fun _ z => nomatch z
theorem nt_frz {o : Obj} {u : HO} : NT (.frz o u) := fun _ z => nomatch z
theorem nt_dK {xs : List (Key × V)} : NT (.dK xs) := fun _ z => nomatch z
theorem nt_dT {xs : List (List Key × V)} : NT (.dT xs) := fun _ z => nomatch z
theorem nt_ins {C dx : Addr} {fs : List (Str × V)} : NT (.ins C dx fs) := fun _ z => nomatch z
theorem nt_own {x : Addr} : NT (.own x) := fun _ z => nomatch z
theorem Mut.nt {o : HO} (h : Mut o) : NT o := by
  cases h
  · exact nt_lst
  · exact nt_dT
  · exact nt_ins
theorem KX.refl : KX H φ H φ := ⟨⟨[], by simp, fun _ h => nomatch h⟩, fun _ _ h _ _ => h, fun _ _ h _ _ => h, fun _ _ h n => ⟨_, h, n⟩, fun _ h => h, fun _ h => h, fun _ _ h => h⟩
theorem KX.trans (x : KX H φ H1 φ1) (y : KX H1 φ1 H2 φ2) : KX H φ H2 φ2 := by
  obtain ⟨ψ, e1, f1⟩ := x.pre
  obtain ⟨χ, e2, f2⟩ := y.pre
  refine ⟨⟨ψ ++ χ, by rw [e2, e1, List.append_assoc], fun a h o ho nt => ?_⟩, fun b o h nt n => ?_, fun b o h nt n => y.imm b o (x.imm b o h nt n) nt n, fun b o h nt => ?_, fun b h => y.kl b (x.kl b h), fun b h => y.kd b (x.kd b h), fun b C h => y.ki b C (x.ki b C h)⟩
  · rcases List.mem_append.mp h with h | h
    · exact f1 a h o ho nt
    · obtain ⟨o', q, n'⟩ := x.grow a o ho nt
      exact f2 a h o' q n'
  · refine y.keep b o (x.keep b o h nt n) nt fun m => ?_
    rw [e1] at m
    rcases List.mem_append.mp m with m | m
    · exact n m
    · exact f1 b m o h nt
  · obtain ⟨o', q, n'⟩ := x.grow b o h nt
    exact y.grow b o' q n'
theorem KX.at (x : KX H φ H' φ') {l : Nat} (h : φ[l]? = some a) : φ'[l]? = some a := by
  obtain ⟨ψ, e, _⟩ := x.pre
  have hl : l < φ.length := (List.getElem?_eq_some_iff.mp h).1
  rw [e, List.getElem?_append_left hl]; exact h
theorem KX.rd (x : KX H φ H' φ') {xs : List V} (h : Rd H a (.tup xs)) : Rd H' a (.tup xs) := by
  rcases h with h | ⟨o, h⟩
  · exact .inl (x.imm _ _ h nt_tup fun z => nomatch z)
  · exact .inr ⟨o, x.imm _ _ h nt_frz fun z => nomatch z⟩
theorem KX.sqT (x : KX H φ H' φ') {xs : List V} (h : SqT K H a xs) : SqT K H' a xs := by
  rcases h with h | h
  · exact .inl (x.rd h)
  · exact .inr h
theorem KX.sqR (x : KX H φ H' φ') {xs : List V} (h : SqR K H a xs) : SqR K H' a xs := by
  rcases h with ⟨o, h⟩ | h
  · exact .inl ⟨o, x.imm _ _ h nt_frz fun z => nomatch z⟩
  · exact .inr h
theorem KX.ext (x : KX H φ H' φ') {f : Heap → Prop} (h : H a = some (.ext f)) : H' a = some (.ext f) := x.imm _ _ h (fun _ z => nomatch z) fun z => nomatch z
mutual
theorem VD.mono (x : KX H φ H' φ') : ∀ {v d}, VD K H φ v d → VD K H' φ' v d
  | _, _, .non => .non
  | _, _, .bl => .bl
  | _, _, .int => .int
  | _, _, .str => .str
  | _, _, .tup h1 h2 => .tup (x.sqT h1) (VDs.mono x h2)
  | _, _, .mu h hl => .mu (x.at h) (x.kl _ hl)
  | _, _, .key h => .key (x.imm _ _ h nt_tup fun z => nomatch z)
  | _, _, .mdt h hd => .mdt (x.at h) (x.kd _ hd)
  | _, _, .obj h hi => .obj (x.at h) (x.ki _ _ hi)
  | _, _, .scr h => .scr (x.sqR h)
  | _, _, .ty => .ty
  | _, _, .cls => .cls
  | _, _, .cln => .cln
  | _, _, .exc h => .exc (x.ext h)
  | _, _, .exf h1 h2 => .exf (x.ext h1) (x.ext h2)
  | _, _, .tpn h e => .tpn (x.imm _ _ h nt_frz fun z => nomatch z) e
  | _, _, .cxd h => .cxd (x.imm _ _ h (fun _ z => nomatch z) fun z => nomatch z)
  | _, _, .dic h1 h2 h3 => .dic (x.imm _ _ h1 nt_dK fun z => nomatch z) h2 (VDs.mono x h3)
theorem VDs.mono (x : KX H φ H' φ') : ∀ {vs ds}, VDs K H φ vs ds → VDs K H' φ' vs ds
  | _, _, .nil => .nil
  | _, _, .cons h t => .cons (VD.mono x h) (VDs.mono x t)
end
theorem RE.mono {σ : L2.St} {en : En} (x : KX H φ H' φ') (h : RE K H φ σ en) : RE K H' φ' σ en := ⟨h.len, fun i d e => by
  obtain ⟨v, e1, e2⟩ := h.get i d e
  exact ⟨v, e1, e2.mono x⟩⟩
theorem VDs.length : ∀ {vs ds}, VDs K H φ vs ds → vs.length = ds.length
  | _, _, .nil => rfl
  | _, _, .cons _ t => by simp [VDs.length t]
theorem VDs.get : ∀ {vs ds} {i : Nat} {d : D}, VDs K H φ vs ds → ds[i]? = some d → ∃ v, vs[i]? = some v ∧ VD K H φ v d
  | _, _, i, d, .nil, h => by simp at h
  | _, _, 0, d, .cons h t, e => by simp at e; subst e; exact ⟨_, rfl, h⟩
  | _, _, i + 1, d, .cons h t, e => by
    obtain ⟨v, e1, e2⟩ := VDs.get (i := i) t (by simpa using e)
    exact ⟨v, by simpa using e1, e2⟩
theorem VDs.app : ∀ {vs ds ws es}, VDs K H φ vs ds → VDs K H φ ws es → VDs K H φ (vs ++ ws) (ds ++ es)
  | _, _, _, _, .nil, h => h
  | _, _, _, _, .cons a t, h => .cons a (VDs.app t h)
theorem VDs.take : ∀ {vs ds} (n : Nat), VDs K H φ vs ds → VDs K H φ (vs.take n) (ds.take n)
  | _, _, 0, _ => .nil
  | _, _, _ + 1, .nil => .nil
  | _, _, n + 1, .cons a t => .cons a (VDs.take n t)
theorem VDs.drop : ∀ {vs ds} (n : Nat), VDs K H φ vs ds → VDs K H φ (vs.drop n) (ds.drop n)
  | _, _, 0, h => h
  | _, _, _ + 1, .nil => .nil
  | _, _, n + 1, .cons _ t => VDs.drop n t
theorem VDs.rev : ∀ {vs ds}, VDs K H φ vs ds → VDs K H φ vs.reverse ds.reverse
  | _, _, .nil => .nil
  | _, _, .cons a t => by
    rw [List.reverse_cons, List.reverse_cons]
    exact (VDs.rev t).app (.cons a .nil)
theorem VDs.set {v : V} {d : D} (r : VD K H φ v d) : ∀ {vs ds} (i : Nat), VDs K H φ vs ds → VDs K H φ (vs.set i v) (ds.set i d)
  | _, _, _, .nil => .nil
  | _, _, 0, .cons _ t => .cons r t
  | _, _, i + 1, .cons q t => .cons q (VDs.set r i t)
theorem VDs.ints : ∀ {vs} {ns : List Int}, VDs K H φ vs (ns.map D.int) → vs = ns.map V.int
  | _, [], .nil => rfl
  | _, n :: ns, .cons h t => by
    cases h
    rw [VDs.ints t]; rfl
theorem VDs.bls : ∀ {vs} {ns : List Bool}, VDs K H φ vs (ns.map D.bl) → vs = ns.map V.bl
  | _, [], .nil => rfl
  | _, n :: ns, .cons h t => by
    cases h
    rw [VDs.bls t]; rfl
theorem vds_ints : ∀ (ns : List Int), VDs K H φ (ns.map V.int) (ns.map D.int)
  | [] => .nil
  | n :: ns => .cons .int (vds_ints ns)
theorem SqR.sql {xs : List V} (h : SqR K H a xs) : SqL K H a xs := by
  rcases h with ⟨o, h⟩ | h
  · exact .inl (.inr ⟨o, h⟩)
  · exact .inr h
theorem KX.muAt (x : KX H φ H' φ') {l : Nat} (h : MuAt H φ l a) : MuAt H' φ' l a := ⟨x.at h.at', x.kl _ h.lst⟩
theorem KX.dcAt (x : KX H φ H' φ') {l : Nat} (h : DcAt H φ l a) : DcAt H' φ' l a := ⟨x.at h.at', x.kd _ h.dct⟩
theorem RowR.some (r : RowR K H φ a ds) : ∃ o, H a = some o := by
  cases r with
  | lst h _ => exact ⟨_, h⟩
  | dct h _ => exact ⟨_, h⟩
  | ins h _ _ _ => exact ⟨_, h⟩
theorem rowR_mut (r : RowR K H φ a ds) : ∃ o, H a = some o ∧ Mut o := by
  cases r with
  | lst h _ => exact ⟨_, h, .lst _⟩
  | dct h _ => exact ⟨_, h, .dT _⟩
  | ins h _ _ _ => exact ⟨_, h, .ins _ _ _⟩
theorem RowR.go (r : RowR K H φ a ds) (x : KX H φ H' φ') (e : H' a = H a) : RowR K H' φ' a ds := by
  cases r with
  | lst h t => exact .lst (e.trans h) (t.mono x)
  | dct h t => exact .dct (e.trans h) t
  | ins h t u z => exact .ins (e.trans h) t (u.mono x) z
theorem RS.get (rs : RS K H φ st) (l : Nat) (a : Addr) (ds : List D) (m : MuAt H φ l a) (e : st[l]? = some ds) : ∃ vs, H a = some (.lst vs) ∧ VDs K H φ vs ds := by
  cases rs.row l a ds m.at' e with
  | lst h t => exact ⟨_, h, t⟩
  | dct h _ =>
    obtain ⟨vs, q⟩ := m.lst
    rw [h] at q; cases q
  | ins h _ _ _ =>
    obtain ⟨vs, q⟩ := m.lst
    rw [h] at q; cases q
theorem RS.getD (rs : RS K H φ st) (l : Nat) (a : Addr) (ds : List D) (m : DcAt H φ l a) (e : st[l]? = some ds) : ∃ ps : List (List Int × Int), H a = some (.dT (ps.map eV)) ∧ ds = ps.map eD := by
  cases rs.row l a ds m.at' e with
  | dct h t => exact ⟨_, h, t⟩
  | lst h _ =>
    obtain ⟨vs, q⟩ := m.dct
    rw [h] at q; cases q
  | ins h _ _ _ =>
    obtain ⟨vs, q⟩ := m.dct
    rw [h] at q; cases q
theorem RS.getO (rs : RS K H φ st) (n : Str) (l : Nat) (a : Addr) (ds : List D) (m : ObAt K H φ n l a) (e : st[l]? = some ds) : ∃ (dx : Addr) (fs : List (Str × V)) (es : List (Str × D)), H a = some (.ins (clsA K n) dx fs) ∧ fs.map (·.1) = es.map (·.1) ∧ VDs K H φ (fs.map (·.2)) (es.map (·.2)) ∧ ds = es.map eA := by
  cases rs.row l a ds m.at' e with
  | ins h t u z =>
    obtain ⟨dx, fs, q⟩ := m.ins
    rw [h] at q; cases q
    exact ⟨_, _, _, h, t, u, z⟩
  | lst h _ =>
    obtain ⟨_, _, q⟩ := m.ins
    rw [h] at q; cases q
  | dct h _ =>
    obtain ⟨_, _, q⟩ := m.ins
    rw [h] at q; cases q
theorem KX.obAt (x : KX H φ H' φ') {n : Str} {l : Nat} (h : ObAt K H φ n l a) : ObAt K H' φ' n l a := ⟨x.at h.at', x.ki _ _ h.ins⟩
/-- anything new is laid -/
theorem kx_upd {o : HO} (n : H a = none) (no : NT o) : KX H φ (upd H a o) φ := ⟨⟨[], by simp, fun _ h => nomatch h⟩, fun b o h _ _ => by rw [upd_ne (ne_of_none h n)]; exact h, fun b o h _ _ => by rw [upd_ne (ne_of_none h n)]; exact h, fun b u h nu => by
    by_cases e : b = a
    · rw [e, upd_same]; exact ⟨o, rfl, no⟩
    · rw [upd_ne e]; exact ⟨u, h, nu⟩, fun b ⟨vs, h⟩ => ⟨vs, by rw [upd_ne (ne_of_none h n)]; exact h⟩, fun b ⟨vs, h⟩ => ⟨vs, by rw [upd_ne (ne_of_none h n)]; exact h⟩, fun b C ⟨dx, fs, h⟩ => ⟨dx, fs, by rw [upd_ne (ne_of_none h n)]; exact h⟩⟩
theorem tabs_upd {o : HO} (t : LamX.Tabs Tb.T H) (n : H a = none) : LamX.Tabs Tb.T (upd H a o) := t.ext fun b o h => by rw [upd_ne (ne_of_none h n)]; exact h
theorem lay_any {o : HO} (rs : RS K H φ st) (n : H a = none) (no : NT o) : KX H φ (upd H a o) φ ∧ RS K (upd H a o) φ st := by
  have k : KX H φ (upd H a o) φ := kx_upd n no
  refine ⟨k, rs.len, rs.nd, fun l b ds e1 e2 => ?_, tabs_upd rs.tabs n⟩
  have r := rs.row l b ds e1 e2
  obtain ⟨o1, q⟩ := r.some
  exact r.go k (upd_ne (ne_of_none q n))
/-- a tuple is laid -/
theorem lay_tup {xs : List V} (rs : RS K H φ st) (n : H a = none) : KX H φ (upd H a (.tup xs)) φ ∧ RS K (upd H a (.tup xs)) φ st := lay_any rs n nt_tup
/-- a row is laid -/
theorem kx_row {o : HO} (n : H a = none) (no : NT o) : KX H φ (upd H a o) (φ ++ [a]) := ⟨⟨[a], rfl, fun b h o ho => by simp at h; rw [h, n] at ho; cases ho⟩, (kx_upd (φ := φ) n no).keep, (kx_upd (φ := φ) n no).imm, (kx_upd (φ := φ) n no).grow, (kx_upd (φ := φ) n no).kl, (kx_upd (φ := φ) n no).kd, (kx_upd (φ := φ) n no).ki⟩
theorem lay_row {o : HO} {ds : List D} (rs : RS K H φ st) (n : H a = none) (no : NT o) (r : RowR K (upd H a o) (φ ++ [a]) a ds) : KX H φ (upd H a o) (φ ++ [a]) ∧ RS K (upd H a o) (φ ++ [a]) (st ++ [ds]) := by
  have k : KX H φ (upd H a o) (φ ++ [a]) := kx_row n no
  have na : a ∉ φ := fun h => by
    obtain ⟨l, e⟩ := List.mem_iff_getElem?.mp h
    have hl : l < st.length := by rw [← rs.len]; exact (List.getElem?_eq_some_iff.mp e).1
    obtain ⟨o1, g⟩ := (rs.row l a st[l] e (List.getElem?_eq_getElem hl)).some
    rw [n] at g; cases g
  refine ⟨k, by simp [rs.len], ?_, fun l b es e1 e2 => ?_, tabs_upd rs.tabs n⟩
  · rw [List.nodup_append]
    exact ⟨rs.nd, by simp, fun x hx y hy => by simp at hy; subst hy; exact fun z => na (z ▸ hx)⟩
  · by_cases hl : l < φ.length
    · rw [List.getElem?_append_left hl] at e1
      rw [List.getElem?_append_left (by rw [← rs.len]; exact hl)] at e2
      have r1 := rs.row l b es e1 e2
      obtain ⟨o1, q⟩ := r1.some
      exact r1.go k (upd_ne (ne_of_none q n))
    · have hl' : l = φ.length := by
        have := (List.getElem?_eq_some_iff.mp e1).1
        simp at this; omega
      subst hl'
      rw [List.getElem?_append_right (Nat.le_refl _)] at e1
      rw [List.getElem?_append_right (by rw [rs.len]; exact Nat.le_refl _)] at e2
      simp [rs.len] at e1 e2
      subst e1 e2
      exact r
/-- a list is laid -/
theorem lay_lst {xs : List V} {ds : List D} (rs : RS K H φ st) (n : H a = none) (r : VDs K H φ xs ds) : KX H φ (upd H a (.lst xs)) (φ ++ [a]) ∧ RS K (upd H a (.lst xs)) (φ ++ [a]) (st ++ [ds]) :=
  lay_row rs n nt_lst (.lst upd_same (r.mono (kx_row n nt_lst)))
/-- a dict is laid -/
theorem lay_dct (rs : RS K H φ st) (n : H a = none) : KX H φ (upd H a (.dT [])) (φ ++ [a]) ∧ RS K (upd H a (.dT [])) (φ ++ [a]) (st ++ [[]]) :=
  lay_row rs n nt_dT (.dct (ps := []) upd_same rfl)
/-- an instance is laid, without attributes -/
theorem lay_ins {C dx : Addr} (rs : RS K H φ st) (n : H a = none) : KX H φ (upd H a (.ins C dx [])) (φ ++ [a]) ∧ RS K (upd H a (.ins C dx [])) (φ ++ [a]) (st ++ [[]]) :=
  lay_row rs n nt_ins (.ins (es := []) upd_same rfl .nil rfl)
/-- a row is changed -/
theorem put_row {l : Nat} {o0 o : HO} {ds : List D} (rs : RS K H φ st) (e : φ[l]? = some a) (g : H a = some o0) (m0 : Mut o0) (m : Mut o)
    (hl1 : (∃ vs, o0 = .lst vs) → ∃ vs, o = .lst vs) (hd1 : (∃ vs, o0 = .dT vs) → ∃ vs, o = .dT vs) (hi1 : ∀ C, (∃ dx fs, o0 = .ins C dx fs) → ∃ dx fs, o = .ins C dx fs)
    (r : KX H φ (upd H a o) φ → RowR K (upd H a o) φ a ds) : KX H φ (upd H a o) φ ∧ RS K (upd H a o) φ (st.set l ds) := by
  have hl : l < st.length := by rw [← rs.len]; exact (List.getElem?_eq_some_iff.mp e).1
  have hm : a ∈ φ := List.mem_iff_getElem?.mpr ⟨l, e⟩
  have k : KX H φ (upd H a o) φ := ⟨⟨[], by simp, fun _ h => nomatch h⟩, fun b u h _ nb => by rw [upd_ne (fun (z : b = a) => nb (by rw [z]; exact hm))]; exact h, fun b u h _ nl => by
      rw [upd_ne (fun (z : b = a) => by rw [z, g] at h; cases h; exact nl m0)]; exact h, fun b u h nt => by
    by_cases q : b = a
    · rw [q, upd_same]; exact ⟨_, rfl, m.nt⟩
    · rw [upd_ne q]; exact ⟨u, h, nt⟩, fun b h => by
    by_cases q : b = a
    · rw [q, upd_same]
      obtain ⟨vs, h⟩ := h
      rw [q, g] at h
      obtain ⟨ws, e⟩ := hl1 ⟨vs, Option.some.inj h⟩
      exact ⟨ws, by rw [e]⟩
    · rw [upd_ne q]; exact h, fun b h => by
    by_cases q : b = a
    · rw [q, upd_same]
      obtain ⟨vs, h⟩ := h
      rw [q, g] at h
      obtain ⟨ws, e⟩ := hd1 ⟨vs, Option.some.inj h⟩
      exact ⟨ws, by rw [e]⟩
    · rw [upd_ne q]; exact h, fun b C h => by
    by_cases q : b = a
    · rw [q, upd_same]
      obtain ⟨dx, vs, h⟩ := h
      rw [q, g] at h
      obtain ⟨dy, ws, e⟩ := hi1 C ⟨dx, vs, Option.some.inj h⟩
      exact ⟨dy, ws, by rw [e]⟩
    · rw [upd_ne q]; exact h⟩
  have tb : LamX.Tabs Tb.T (upd H a o) := fun p hp => by
    obtain ⟨ps, h1, h2, h3⟩ := rs.tabs p hp
    have ne : p.1 ≠ a := fun z => by rw [z, g] at h1; cases h1; cases m0
    refine ⟨ps, by rw [upd_ne ne]; exact h1, h2, fun pos cv hc => ?_⟩
    obtain ⟨c, e1, e2⟩ := h3 pos cv hc
    have nc : c ≠ a := fun z => by rw [z, g] at e2; unfold LamX.CodeO at e2; cases e2; cases m0
    exact ⟨c, e1, by rw [upd_ne nc]; exact e2⟩
  refine ⟨k, by simp [rs.len], rs.nd, fun j b es e1 e2 => ?_, tb⟩
  by_cases hj : j = l
  · subst hj
    rw [e] at e1; cases e1
    rw [List.getElem?_set_self hl] at e2; cases e2
    exact r k
  · rw [List.getElem?_set_ne (Ne.symm hj)] at e2
    have hb : b ≠ a := fun z => hj (nd_ix rs.nd e1 (z ▸ e))
    exact (rs.row j b es e1 e2).go k (upd_ne hb)
/-- a list is changed -/
theorem put_lst {l : Nat} {xs : List V} {ds : List D} (rs : RS K H φ st) (m : MuAt H φ l a) (r : VDs K H φ xs ds) : KX H φ (upd H a (.lst xs)) φ ∧ RS K (upd H a (.lst xs)) φ (st.set l ds) := by
  obtain ⟨ws, g⟩ := m.lst
  exact put_row rs m.at' g (.lst _) (.lst _) (fun _ => ⟨_, rfl⟩) (fun ⟨_, z⟩ => nomatch z) (fun C ⟨_, _, z⟩ => nomatch z) fun k => .lst upd_same (r.mono k)
/-- a dict is changed -/
theorem put_dct {l : Nat} {ps : List (List Int × Int)} (rs : RS K H φ st) (m : DcAt H φ l a) : KX H φ (upd H a (.dT (ps.map eV))) φ ∧ RS K (upd H a (.dT (ps.map eV))) φ (st.set l (ps.map eD)) := by
  obtain ⟨ws, g⟩ := m.dct
  exact put_row rs m.at' g (.dT _) (.dT _) (fun ⟨_, z⟩ => nomatch z) (fun _ => ⟨_, rfl⟩) (fun C ⟨_, _, z⟩ => nomatch z) fun k => .dct upd_same rfl
/-- an attribute is stored -/
theorem put_ins {l : Nat} {n : Str} {dx dy : Addr} {fs0 fs : List (Str × V)} {es : List (Str × D)} (rs : RS K H φ st) (e : φ[l]? = some a) (g : H a = some (.ins (clsA K n) dx fs0)) (hn : fs.map (·.1) = es.map (·.1)) (r : VDs K H φ (fs.map (·.2)) (es.map (·.2))) :
    KX H φ (upd H a (.ins (clsA K n) dy fs)) φ ∧ RS K (upd H a (.ins (clsA K n) dy fs)) φ (st.set l (es.map eA)) :=
  put_row rs e g (.ins _ _ _) (.ins _ _ _) (fun ⟨_, z⟩ => nomatch z) (fun ⟨_, z⟩ => nomatch z) (fun C ⟨_, _, z⟩ => ⟨dy, fs, by cases z; rfl⟩) fun k => .ins upd_same hn (r.mono k) rfl
end

/-! ### mirrors -/
abbrev MM (α : Type) := En → Sto → Option (Except Er α × Sto)
def bnd {α β : Type} (m : MM α) (k : α → MM β) : MM β := fun en st => match m en st with
  | none => none
  | some (.error c, st1) => some (.error c, st1)
  | some (.ok a, st1) => k a en st1
def ret {α : Type} (a : α) : MM α := fun _ st => some (.ok a, st)
def lft {α : Type} (o : Option α) : MM α := fun _ st => o.map fun a => (.ok a, st)
def stm {α : Type} (f : Sto → Option (α × Sto)) : MM α := fun _ st => (f st).map fun p => (.ok p.1, p.2)
def asg {α : Type} (f : En → Sto → Option α) : MM α := fun en st => (f en st).map fun a => (.ok a, st)

def Pst {α : Type} (K : PySem.W.Frag) (E : XK) (P : α → List Addr → Hp → Prop) : Except Er α → List Addr → Hp → Prop
  | .ok a, φ, H => P a φ H
  | .error c, _, H => Fly K E c H

def Gat {α : Type} (K : PySem.W.Frag) (E : XK) (m : MM α) (σ : L2.St) (en : En) (st : Sto) (φ : List Addr) (H : Hp) (P : Sto → α → List Addr → Hp → Prop) : Prop :=
  RE K H φ σ en ∧ RS K H φ st ∧ ∃ r st', m en st = some (r, st') ∧ ∀ φ' H', KX H φ H' φ' → RS K H' φ' st' → Pst K E (P st') r φ' H'

section
variable {α β : Type} {K : PySem.W.Frag} {E : XK} {m : MM α} {k : α → MM β} {σ : L2.St} {en : En} {st : Sto} {φ : List Addr} {H : Hp} {P : Sto → α → List Addr → Hp → Prop} {R : Sto → β → List Addr → Hp → Prop}
theorem Gat.bind (h : Gat K E (bnd m k) σ en st φ H R) : Gat K E m σ en st φ H fun st1 a φ1 H1 => KX H φ H1 φ1 ∧ RS K H1 φ1 st1 ∧ Gat K E (k a) σ en st1 φ1 H1 R := by
  obtain ⟨re, rs, r, st', e, q⟩ := h
  refine ⟨re, rs, ?_⟩
  unfold bnd at e
  split at e
  · cases e
  · rename_i c st1 hm
    cases e
    exact ⟨_, _, hm, fun φ' H' kx rs' => q φ' H' kx rs'⟩
  · rename_i a st1 hm
    refine ⟨_, _, hm, fun φ1 H1 kx rs1 => ⟨kx, rs1, re.mono kx, rs1, r, st', e, fun φ' H' kx' rs' => q φ' H' (kx.trans kx') rs'⟩⟩
theorem Gat.imp {P' : Sto → α → List Addr → Hp → Prop} (h : Gat K E m σ en st φ H P) (f : ∀ st' a φ' H', KX H φ H' φ' → RS K H' φ' st' → P st' a φ' H' → P' st' a φ' H') : Gat K E m σ en st φ H P' := by
  obtain ⟨re, rs, r, st', e, q⟩ := h
  refine ⟨re, rs, r, st', e, fun φ' H' kx rs' => ?_⟩
  have z := q φ' H' kx rs'
  cases r with
  | error c => exact z
  | ok a => exact f st' a φ' H' kx rs' z
theorem Gat.ret {a : α} (h : Gat K E (ret a) σ en st φ H P) : P st a φ H := by
  obtain ⟨re, rs, r, st', e, q⟩ := h
  cases e
  exact q φ H .refl rs
theorem Gat.lft {o : Option α} (h : Gat K E (lft o) σ en st φ H P) : ∃ a, o = some a ∧ P st a φ H := by
  obtain ⟨re, rs, r, st', e, q⟩ := h
  unfold M2.lft at e
  cases o with
  | none => cases e
  | some a => cases e; exact ⟨a, rfl, q φ H .refl rs⟩
theorem Gat.lft' {o : Option α} (h : Gat K E (M2.lft o) σ en st φ H P) : ∃ a, o = some a ∧ ∀ φ' H', KX H φ H' φ' → RS K H' φ' st → P st a φ' H' := by
  obtain ⟨re, rs, r, st', e, q⟩ := h
  unfold M2.lft at e
  cases o with
  | none => cases e
  | some a => cases e; exact ⟨a, rfl, q⟩
theorem Gat.asg {f : En → Sto → Option α} (h : Gat K E (asg f) σ en st φ H P) : ∃ a, f en st = some a ∧ P st a φ H := by
  obtain ⟨re, rs, r, st', e, q⟩ := h
  unfold M2.asg at e
  cases hf : f en st with
  | none => rw [hf] at e; cases e
  | some a => rw [hf] at e; cases e; exact ⟨a, rfl, q φ H .refl rs⟩
theorem Gat.stm {f : Sto → Option (α × Sto)} (h : Gat K E (stm f) σ en st φ H P) : ∃ a st', f st = some (a, st') ∧ ∀ φ' H', KX H φ H' φ' → RS K H' φ' st' → P st' a φ' H' := by
  obtain ⟨re, rs, r, st', e, q⟩ := h
  unfold M2.stm at e
  cases hf : f st with
  | none => rw [hf] at e; cases e
  | some p => rw [hf] at e; cases e; exact ⟨p.1, p.2, rfl, q⟩
end

/-! ### the canonical readings -/
def tM (K : PySem.W.Frag) (E : XK) (m : MM D) : TE := fun σ H Q => ∃ en st φ, Gat K E m σ en st φ H fun _ d φ' H' => ∀ v, VD K H' φ' v d → Q v H'
def tTM (K : PySem.W.Frag) (E : XK) (m : MM Bool) : TT := fun σ H Q => ∃ en st φ, Gat K E m σ en st φ H fun _ b _ H' => Q b H'
def tAM (K : PySem.W.Frag) (E : XK) (m : MM (List D)) : TA := fun σ H Q => ∃ en st φ, Gat K E m σ en st φ H fun _ ds φ' H' => ∀ vs, VDs K H' φ' vs ds → Q vs H'
abbrev DE (X : Cx) (E : XK) (e : Expr) (m : MM D) : Prop := PE X e (tM X.K E m)
abbrev DT (X : Cx) (E : XK) (e : Expr) (m : MM Bool) : Prop := PT X e (tTM X.K E m)
abbrev DA (X : Cx) (E : XK) (es : List Expr) (m : MM (List D)) : Prop := PA X es (tAM X.K E m)

theorem pe_imp {X : Cx} {e : Expr} {t t' : TE} (h : PE X e t) (f : ∀ σ H Q, t' σ H Q → t σ H Q) : PE X e t' := ⟨fun pins s σ H Q I w => h.run pins s σ H Q I (f σ H Q w)⟩
theorem pt_imp {X : Cx} {e : Expr} {t t' : TT} (h : PT X e t) (f : ∀ σ H Q, t' σ H Q → t σ H Q) : PT X e t' := ⟨fun pins s σ H Q I w => h.run pins s σ H Q I (f σ H Q w)⟩
theorem pa_imp {X : Cx} {e : List Expr} {t t' : TA} (h : PA X e t) (f : ∀ σ H Q, t' σ H Q → t σ H Q) : PA X e t' := ⟨fun p pins s σ H Q I w => h.run p pins s σ H Q I (f σ H Q w)⟩
theorem ps_imp {X : Cx} {e : Stmt} {t t' : TS} (h : PS X e t) (f : ∀ D σ H, t' D σ H → t D σ H) : PS X e t' := ⟨fun pins s σ H D I w => h.run pins s σ H D I (f D σ H w)⟩
theorem pss_imp {X : Cx} {e : List Stmt} {t t' : TS} (h : PSs X e t) (f : ∀ D σ H, t' D σ H → t D σ H) : PSs X e t' := ⟨fun pins s σ H D I w => h.run pins s σ H D I (f D σ H w)⟩

/-! ### expressions -/
def mVar (i : Nat) : MM D := asg fun en _ => (en[i]?).join
def mOp (f : D → D → Sto → Option (D × Sto)) (a b : MM D) : MM D := bnd a fun x => bnd b fun y => stm (f x y)
def mArgs : List (MM D) → MM (List D)
  | [] => ret []
  | m :: ms => bnd m fun d => bnd (mArgs ms) fun ds => ret (d :: ds)
def mTup (ms : List (MM D)) : MM D := bnd (mArgs ms) fun ds => lft (if ds.length < 100000 then some (.tup ds) else none)
def mNewL (ds : List D) : MM D := stm fun st => if ds.length < 100000 then some (.mu st.length, st ++ [ds]) else none
def mLst (ms : List (MM D)) : MM D := bnd (mArgs ms) mNewL

section
variable {X : Cx} {E : XK} {i : Nat} {x : Str} {pos : Pos} {a b e : Expr} {es : List Expr} {ma mb : MM D} {ms : MM (List D)}
theorem de_var (hN : X.N[i]? = some x) (hv : Vis X.env.scope x) (hd : (x == ("__debug__" : Str)) = false) (hcd : (x == ("__classdict__" : Str)) = false) : DE X E (.Name x pos) (mVar i) :=
  pe_imp (pe_var hN hv hd hcd) fun σ H Q ⟨en, st, φ, g⟩ => by
    obtain ⟨d, e1, q⟩ := g.asg
    have e2 : en[i]? = some (some d) := by
      cases h : en[i]? with
      | none => rw [h] at e1; cases e1
      | some o => rw [h] at e1; exact congrArg some e1
    obtain ⟨v, h1, h2⟩ := g.1.get i d e2
    exact ⟨v, h1, q v h2⟩
theorem de_c {v : V} {d : D} (h : PE X e (tC v)) (r : ∀ K H φ, VD K H φ v d) : DE X E e (ret d) := pe_imp h fun σ H Q ⟨en, st, φ, g⟩ => g.ret v (r _ _ _)
theorem de_int {n : Int} {j : Nat} : DE X E (.Constant (.int n) j pos) (ret (.int n)) := de_c pe_int fun _ _ _ => .int
theorem de_bl {n : Bool} {j : Nat} : DE X E (.Constant (.bool n) j pos) (ret (.bl n)) := de_c pe_bl fun _ _ _ => .bl
theorem de_non {j : Nat} : DE X E (.Constant .none j pos) (ret .non) := de_c pe_non fun _ _ _ => .non
theorem de_str {n : Str} {j : Nat} : DE X E (.Constant (.str n) j pos) (ret (.str n)) := de_c pe_str fun _ _ _ => .str
/-- what a binary operator on values does, told by data -/
abbrev FD2 := D → D → Sto → Option (D × Sto)
def OpD (X : Cx) (r : R2) (f : FD2) : Prop := ∀ H φ st (Q : VK) x y dx dy dz st', RS X.K H φ st → VD X.K H φ x dx → VD X.K H φ y dy → f dx dy st = some (dz, st') → (∀ v φ' H', KX H φ H' φ' → RS X.K H' φ' st' → VD X.K H' φ' v dz → Q v H') → r x y H Q
theorem op_bnd {r : R2} {f : FD2} {σ : L2.St} {H : Hp} {Q : VK} (hf : OpD X r f) (h : tM X.K E (mOp f ma mb) σ H Q) : tM X.K E ma σ H fun x H1 => tM X.K E mb σ H1 fun y H2 => r x y H2 Q := by
  obtain ⟨en, st, φ, g⟩ := h
  refine ⟨en, st, φ, g.bind.imp fun st1 d1 φ1 H1 _ _ ⟨k1, r1, g1⟩ x vx => ⟨en, st1, φ1, g1.bind.imp fun st2 d2 φ2 H2 _ _ ⟨k2, r2, g2⟩ y vy => ?_⟩⟩
  obtain ⟨dz, st', hz, q⟩ := g2.stm
  exact hf H2 φ2 st2 Q x y d1 d2 dz st' r2 (vx.mono k2) vy hz fun v φ' H' kx rs' vd => q φ' H' kx rs' v vd
theorem de_op {op : Operator} {r : R2} {f : FD2} (ho : OpR X (binaryOp op) r) (hf : OpD X r f) (ha : DE X E a ma) (hb : DE X E b mb) : DE X E (.BinOp a op b pos) (mOp f ma mb) :=
  pe_imp (pe_op ho ha hb) fun σ H Q h => op_bnd hf h
theorem de_cmp {op : CmpOp} {r : R2} {f : FD2} (ho : OpR X (compareOp op) r) (hf : OpD X r f) (ha : DE X E a ma) (hb : DE X E b mb) (hm : behindInMarks op b = false) : DE X E (.Compare a [op] [b] pos) (mOp f ma mb) :=
  pe_imp (pe_cmpR ho ha hb hm) fun σ H Q h => op_bnd hf h
theorem da_nil : DA X E [] (mArgs []) := pa_imp pa_nil fun σ H Q ⟨en, st, φ, g⟩ => g.ret [] .nil
theorem da_cons {ms' : List (MM D)} (ha : DE X E a ma) (hs : DA X E es (mArgs ms')) (he : starEach (a :: es) X.env = (false, eval a X.env) :: starEach es X.env := by rfl) : DA X E (a :: es) (mArgs (ma :: ms')) :=
  pa_imp (pa_cons ha hs he) fun σ H Q ⟨en, st, φ, g⟩ => ⟨en, st, φ, g.bind.imp fun st1 d1 φ1 H1 _ _ ⟨k1, r1, g1⟩ x vx => ⟨en, st1, φ1, g1.bind.imp fun st2 d2 φ2 H2 _ _ ⟨k2, r2, g2⟩ vs vds => g2.ret _ (.cons (vx.mono k2) vds)⟩⟩
end
end M2
set_option Elab.async false
set_option linter.all false
set_option maxRecDepth 100000
set_option maxHeartbeats 2000000
namespace M2
open PySem PySem.Spec PyProof.Rows L2
variable [Tb]

/-! ### data as the library's data -/
mutual
def dat (st : Sto) : Nat → D → Option PyData
  | 0, _ => none
  | _ + 1, .non => some .none
  | _ + 1, .bl b => some (.bool b)
  | _ + 1, .int i => some (.int i)
  | _ + 1, .str x => some (.str x)
  | n + 1, .tup ds => (datL st n ds).map .tuple
  | n + 1, .mu l => match st[l]? with
    | some ds => (datL st n ds).map .list
    | none => none
  | _ + 1, .scr ns => some (.list (ns.map .int))
  | _ + 1, .ty _ => none
  | _ + 1, .cls _ => none
  | _ + 1, .cln _ => none
  | _ + 1, .dic _ => none
  | _ + 1, .key _ => none
  | _ + 1, .mdt _ => none
  | _ + 1, .obj _ _ => none
  | _ + 1, .exc _ => none
  | _ + 1, .exf _ _ => none
  | _ + 1, .tpn _ => none
  | _ + 1, .cxd _ _ _ => none
def datL (st : Sto) : Nat → List D → Option (List PyData)
  | _, [] => some []
  | n, d :: ds => match dat st n d, datL st n ds with
    | some p, some ps => some (p :: ps)
    | _, _ => none
end
theorem depthAll_le {n : Nat} : ∀ {ps : List PyData}, (∀ p ∈ ps, p.depth ≤ n) → PyData.depthAll ps ≤ n
  | [], _ => Nat.zero_le _
  | p :: ps, h => by
    have h1 := h p List.mem_cons_self
    have h2 := depthAll_le (ps := ps) fun q hq => h q (List.mem_cons_of_mem _ hq)
    simp only [PyData.depthAll]
    omega
theorem dpAll_ints {K : PySem.W.Frag} {H : Hp} : ∀ (ns : List Int), DpAll K H (ns.map V.int) (ns.map PyData.int)
  | [] => .nil
  | n :: ns => .cons (.int n) (dpAll_ints ns)
theorem depth_ints : ∀ (ns : List Int), PyData.depthAll (ns.map PyData.int) ≤ 0
  | [] => Nat.le_refl _
  | n :: ns => by
    have := depth_ints ns
    simp only [List.map_cons, PyData.depthAll, PyData.depth]
    omega
section
variable {K : PySem.W.Frag} {H : Hp} {φ : List Addr} {st : Sto}
mutual
theorem dat_dp (rs : RS K H φ st) : ∀ (n : Nat) (d : D) (v : V) (p : PyData), VD K H φ v d → dat st n d = some p → Dp K H v p ∧ p.depth ≤ n
  | 0, _, _, _, _, h => by unfold dat at h; cases h
  | n + 1, .non, _, _, .non, h => by unfold dat at h; cases h; exact ⟨.non, by simp only [PyData.depth]; omega⟩
  | n + 1, .bl _, _, _, .bl, h => by unfold dat at h; cases h; exact ⟨.bl _, by simp only [PyData.depth]; omega⟩
  | n + 1, .int _, _, _, .int, h => by unfold dat at h; cases h; exact ⟨.int _, by simp only [PyData.depth]; omega⟩
  | n + 1, .str _, _, _, .str, h => by unfold dat at h; cases h; exact ⟨.str _, by simp only [PyData.depth]; omega⟩
  | n + 1, .tup ds, _, p, .tup h1 h2, h => by
    unfold dat at h
    cases q : datL st n ds with
    | none => rw [q] at h; cases h
    | some ps =>
      rw [q] at h; cases h
      obtain ⟨g1, g2⟩ := datL_dp rs n ds _ ps h2 q
      exact ⟨.tup h1 g1, by simp only [PyData.depth]; omega⟩
  | n + 1, .mu l, _, p, .mu h1 hm1, h => by
    unfold dat at h
    cases e : st[l]? with
    | none => rw [e] at h; cases h
    | some ds =>
      rw [e] at h
      replace h : (datL st n ds).map PyData.list = some p := h
      obtain ⟨vs, g1, g2⟩ := rs.get l _ ds ⟨h1, hm1⟩ e
      cases q : datL st n ds with
      | none => rw [q] at h; cases h
      | some ps =>
        rw [q] at h; cases h
        obtain ⟨g3, g4⟩ := datL_dp rs n ds _ ps g2 q
        exact ⟨.lst (.of g1) g3, by simp only [PyData.depth]; omega⟩
  | n + 1, .scr ns, _, p, .scr h1, h => by
    unfold dat at h; cases h
    exact ⟨.lst h1.sql (dpAll_ints ns), by have := depth_ints ns; simp only [PyData.depth]; omega⟩
  | n + 1, .ty _, _, _, _, h => by unfold dat at h; cases h
  | n + 1, .cls _, _, _, _, h => by unfold dat at h; cases h
  | n + 1, .cln _, _, _, _, h => by unfold dat at h; cases h
  | n + 1, .dic _, _, _, _, h => by unfold dat at h; cases h
  | n + 1, .key _, _, _, _, h => by unfold dat at h; cases h
  | n + 1, .mdt _, _, _, _, h => by unfold dat at h; cases h
  | n + 1, .obj _ _, _, _, _, h => by unfold dat at h; cases h
  | n + 1, .exc _, _, _, _, h => by unfold dat at h; cases h
  | n + 1, .exf _ _, _, _, _, h => by unfold dat at h; cases h
  | n + 1, .tpn _, _, _, _, h => by unfold dat at h; cases h
  | n + 1, .cxd _ _ _, _, _, _, h => by unfold dat at h; cases h
theorem datL_dp (rs : RS K H φ st) : ∀ (n : Nat) (ds : List D) (vs : List V) (ps : List PyData), VDs K H φ vs ds → datL st n ds = some ps → DpAll K H vs ps ∧ PyData.depthAll ps ≤ n
  | _, [], _, _, .nil, h => by unfold datL at h; cases h; exact ⟨.nil, Nat.zero_le _⟩
  | n, d :: ds, _, ps, .cons h1 h2, h => by
    unfold datL at h
    cases q : dat st n d with
    | none => rw [q] at h; cases h
    | some p =>
      cases q2 : datL st n ds with
      | none => rw [q, q2] at h; cases h
      | some ps' =>
        rw [q, q2] at h; cases h
        obtain ⟨a1, a2⟩ := dat_dp rs n d _ p h1 q
        obtain ⟨b1, b2⟩ := datL_dp rs n ds _ ps' h2 q2
        exact ⟨.cons a1 b1, by simp only [PyData.depthAll]; omega⟩
end
end

/-! ### operators on data -/
section
variable {X : Cx}
def iop (C : Int → Int → Bool) (g : Int → Int → Int) : FD2 := fun x y st => match x, y with
  | .int i, .int j => if C i j = true then some (.int (g i j), st) else none
  | _, _ => none
def bop (g : Int → Int → Bool) : FD2 := fun x y st => match x, y with
  | .int i, .int j => some (.bl (g i j), st)
  | _, _ => none
theorem opd_I {C : Int → Int → Prop} {c : Int → Int → Bool} {g : Int → Int → Int} (hc : ∀ i j, c i j = true → C i j) : OpD X (rI C fun i j => .int (g i j)) (iop c g) := by
  intro H φ st Q x y dx dy dz st' rs vx vy hf q
  unfold iop at hf
  split at hf
  · rename_i i j
    split at hf
    · rename_i h
      cases hf; cases vx; cases vy
      exact ⟨i, j, rfl, rfl, hc i j h, q _ φ H .refl rs .int⟩
    · cases hf
  · cases hf
theorem opd_I0 {g : Int → Int → Int} : OpD X (rI0 fun i j => .int (g i j)) (iop (fun _ _ => true) g) := by
  intro H φ st Q x y dx dy dz st' rs vx vy hf q
  unfold iop at hf
  split at hf
  · rename_i i j
    rw [if_pos rfl] at hf
    cases hf; cases vx; cases vy
    exact ⟨i, j, rfl, rfl, q _ φ H .refl rs .int⟩
  · cases hf
theorem opd_B {g : Int → Int → Bool} : OpD X (rI0 fun i j => .bl (g i j)) (bop g) := by
  intro H φ st Q x y dx dy dz st' rs vx vy hf q
  unfold bop at hf
  split at hf
  · rename_i i j
    cases hf; cases vx; cases vy
    exact ⟨i, j, rfl, rfl, q _ φ H .refl rs .bl⟩
  · cases hf
def fSub : FD2 := iop (fun _ _ => true) fun i j => i - j
def fMod : FD2 := iop (fun _ j => decide (0 < j)) fun i j => i % j
def fDiv : FD2 := iop (fun _ j => decide (0 < j ∧ j.natAbs.log2 < 9000)) fun i j => i / j
def fPow : FD2 := iop (fun i j => decide (0 ≤ j ∧ j ≤ 1000000 ∧ i.natAbs < 2 ^ 64)) fun i j => i ^ j.toNat
def fLt : FD2 := bop fun i j => decide (i < j)
def fLe : FD2 := bop fun i j => decide (i ≤ j)
def fGt : FD2 := bop fun i j => decide (j < i)
def fGe : FD2 := bop fun i j => decide (j ≤ i)
theorem opd_sub : OpD X (rI0 fun i j => .int (i - j)) fSub := opd_I0
theorem opd_mod : OpD X (rI (fun _ j => 0 < j) fun i j => .int (i % j)) fMod := opd_I fun i j h => of_decide_eq_true h
theorem opd_div : OpD X (rI CDivW fun i j => .int (i / j)) fDiv := opd_I fun i j h => (of_decide_eq_true h : 0 < j ∧ j.natAbs.log2 < 9000)
theorem opd_pow : OpD X (rI CPow fun i j => .int (i ^ j.toNat)) fPow := opd_I fun i j h => (of_decide_eq_true h : 0 ≤ j ∧ j ≤ 1000000 ∧ i.natAbs < 2 ^ 64)
theorem opd_lt : OpD X (rI0 fun i j => .bl (decide (i < j))) fLt := opd_B
theorem opd_le : OpD X (rI0 fun i j => .bl (decide (i ≤ j))) fLe := opd_B
theorem opd_gt : OpD X (rI0 fun i j => .bl (decide (j < i))) fGt := opd_B
theorem opd_ge : OpD X (rI0 fun i j => .bl (decide (j ≤ i))) fGe := opd_B
/-- + -/
def fAdd : FD2 := fun x y st => match x, y with
  | .int i, .int j => some (.int (i + j), st)
  | .str a, .str b => if a.length + b.length ≤ 100000 then some (.str (a ++ b), st) else none
  | .tup xs, .tup ys => if xs.length + ys.length < 100000 then some (.tup (xs ++ ys), st) else none
  | .mu l, .mu k => match st[l]?, st[k]? with
    | some xs, some ys => if xs.length + ys.length < 100000 then some (.mu st.length, st ++ [xs ++ ys]) else none
    | _, _ => none
  | _, _ => none
def rAddA (K : PySem.W.Frag) : R2 := fun x y H Q => rI0 (fun i j => .int (i + j)) x y H Q ∨ (∃ i j, x = .str i ∧ y = .str j ∧ i.length + j.length ≤ sizeLine ∧ Q (.str (i ++ j)) H) ∨ rCatA K x y H Q ∨ rCat x y H Q
theorem op_addA : OpR X (binaryOp .Add) (rAddA X.K) := op_add.or (op_add_str.or (op_catA.or op_cat))
theorem big {n : Nat} (h : n ≤ 100000) : n ≤ sizeLine := Evl.sz_of h
theorem VD.tupI {K : PySem.W.Frag} {H : Hp} {φ : List Addr} {v : V} {ds : List D} (h : VD K H φ v (.tup ds)) : ∃ a vs, v = .ref a ∧ SqT K H a vs ∧ VDs K H φ vs ds := by
  cases h with
  | tup h1 h2 => exact ⟨_, _, rfl, h1, h2⟩
theorem VD.mutI {K : PySem.W.Frag} {H : Hp} {φ : List Addr} {v : V} {l : Nat} (h : VD K H φ v (.mu l)) : ∃ a, v = .ref a ∧ MuAt H φ l a := by
  cases h with
  | mu h1 h2 => exact ⟨_, rfl, ⟨h1, h2⟩⟩
theorem VDs.nilI {K : PySem.W.Frag} {H : Hp} {φ : List Addr} {vs : List V} (h : VDs K H φ vs []) : vs = [] := by cases h; rfl
theorem opd_add : OpD X (rAddA X.K) fAdd := by
  intro H φ st Q x y dx dy dz st' rs vx vy hf q
  unfold fAdd at hf
  split at hf
  · rename_i i j
    cases hf; cases vx; cases vy
    exact .inl ⟨i, j, rfl, rfl, q _ φ H .refl rs .int⟩
  · rename_i a b
    split at hf
    · rename_i h
      cases hf; cases vx; cases vy
      exact .inr (.inl ⟨a, b, rfl, rfl, big h, q _ φ H .refl rs .str⟩)
    · cases hf
  · rename_i xs ys
    split at hf
    · rename_i h
      cases hf
      obtain ⟨a, vs, rfl, h1, h2⟩ := vx.tupI
      obtain ⟨b, ws, rfl, h3, h4⟩ := vy.tupI
      refine .inr (.inr (.inl ⟨a, b, vs, ws, rfl, rfl, h1, h3, big (by rw [h2.length, h4.length]; omega), fun e => ?_, fun e e' => ?_, fun e e' p hp => ?_⟩))
      · subst e
        have : xs = [] := by cases h2; rfl
        subst this
        exact q _ φ H .refl rs (.tup h3 h4)
      · subst e'
        have : ys = [] := by cases h4; rfl
        subst this
        rw [List.append_nil] at q
        exact q _ φ H .refl rs (.tup h1 h2)
      · obtain ⟨k, r⟩ := lay_tup (xs := vs ++ ws) rs hp
        exact q _ φ _ k r (.tup (.of upd_same) ((h2.app h4).mono k))
    · cases hf
  · rename_i l k
    split at hf
    · rename_i xs ys e1 e2
      split at hf
      · rename_i h
        cases hf
        obtain ⟨a, rfl, ha⟩ := vx.mutI
        obtain ⟨b, rfl, hb⟩ := vy.mutI
        obtain ⟨vs, g1, g2⟩ := rs.get l a xs ha e1
        obtain ⟨ws, g3, g4⟩ := rs.get k b ys hb e2
        refine .inr (.inr (.inr ⟨a, b, vs, ws, rfl, rfl, g1, g3, big (by rw [g2.length, g4.length]; omega), fun p hp => ?_⟩))
        obtain ⟨kx, r⟩ := lay_lst (xs := vs ++ ws) (ds := xs ++ ys) rs hp (g2.app g4)
        exact q _ _ _ kx r (.mu (by rw [← rs.len, List.getElem?_append_right (Nat.le_refl _)]; simp) ⟨_, upd_same⟩)
      · cases hf
    · cases hf
  · cases hf
/-- * -/
def fMul : FD2 := fun x y st => match x, y with
  | .int i, .int j => if i.natAbs.log2 + j.natAbs.log2 < 1000000 then some (.int (i * j), st) else none
  | .mu l, .int k => match st[l]? with
    | some xs => if 0 ≤ k ∧ k ≤ 1000 ∧ xs.length ≤ 1000 ∧ xs.length * k.toNat < 100000 then some (.mu st.length, st ++ [(List.replicate k.toNat xs).flatten]) else none
    | none => none
  | _, _ => none
def rMulA : R2 := fun x y H Q => rI CMulW (fun i j => .int (i * j)) x y H Q ∨ rRep x y H Q
theorem op_mulA : OpR X (binaryOp .Mult) rMulA := op_mulW.or op_rep
theorem VDs.rep {K : PySem.W.Frag} {H : Hp} {φ : List Addr} {vs : List V} {ds : List D} (h : VDs K H φ vs ds) : ∀ n : Nat, VDs K H φ (List.replicate n vs).flatten (List.replicate n ds).flatten
  | 0 => .nil
  | n + 1 => by
    rw [List.replicate_succ, List.replicate_succ, List.flatten_cons, List.flatten_cons]
    exact h.app (VDs.rep h n)
theorem opd_mul : OpD X rMulA fMul := by
  intro H φ st Q x y dx dy dz st' rs vx vy hf q
  unfold fMul at hf
  split at hf
  · rename_i i j
    split at hf
    · rename_i h
      cases hf; cases vx; cases vy
      exact .inl ⟨i, j, rfl, rfl, h, q _ φ H .refl rs .int⟩
    · cases hf
  · rename_i l k
    split at hf
    · rename_i xs e1
      split at hf
      · rename_i h
        cases hf
        obtain ⟨a, rfl, ha⟩ := vx.mutI
        cases vy
        obtain ⟨vs, g1, g2⟩ := rs.get l a xs ha e1
        refine .inr ⟨a, k, vs, rfl, rfl, g1, by omega, by omega, big (by rw [g2.length]; omega), fun p hp => ?_⟩
        obtain ⟨kx, r⟩ := lay_lst (xs := (List.replicate k.toNat vs).flatten) (ds := (List.replicate k.toNat xs).flatten) rs hp (g2.rep _)
        exact q _ _ _ kx r (.mu (by rw [← rs.len, List.getElem?_append_right (Nat.le_refl _)]; simp) ⟨_, upd_same⟩)
      · cases hf
    · cases hf
  · cases hf
/-- == and != of data -/
def eqD (x y : D) (st : Sto) : Option Bool := match dat st 64 x, dat st 64 y with
  | some p, some r => if p.canLay0 = true ∧ r.canLay0 = true then some (PyData.eqv p r) else none
  | _, _ => none
def fEq : FD2 := fun x y st => (eqD x y st).map fun b => (.bl b, st)
def fNe : FD2 := fun x y st => (eqD x y st).map fun b => (.bl !b, st)
theorem eqD_some {K : PySem.W.Frag} {H : Hp} {φ : List Addr} {st : Sto} {x y : D} {b : Bool} {v u : V} (rs : RS K H φ st) (vx : VD K H φ v x) (vy : VD K H φ u y) (h : eqD x y st = some b) :
    ∃ p r, Dp K H v p ∧ Dp K H u r ∧ SeqAt.shaped p = true ∧ SeqAt.shaped r = true ∧ b = PyData.eqv p r := by
  unfold eqD at h
  split at h
  · rename_i p r e1 e2
    split at h
    · rename_i c
      cases h
      obtain ⟨a1, a2⟩ := dat_dp rs 64 x v p vx e1
      obtain ⟨b1, b2⟩ := dat_dp rs 64 y u r vy e2
      refine ⟨p, r, a1, b1, ?_, ?_, rfl⟩
      · unfold SeqAt.shaped
        rw [c.1, decide_eq_true (by omega : p.depth ≤ 64)]; rfl
      · unfold SeqAt.shaped
        rw [c.2, decide_eq_true (by omega : r.depth ≤ 64)]; rfl
    · cases h
  · cases h
theorem opd_eq : OpD X (rEqD X.K) fEq := by
  intro H φ st Q x y dx dy dz st' rs vx vy hf q
  unfold fEq at hf
  cases e : eqD dx dy st with
  | none => rw [e] at hf; cases hf
  | some b =>
    rw [e] at hf; cases hf
    obtain ⟨p, r, h1, h2, h3, h4, rfl⟩ := eqD_some rs vx vy e
    exact ⟨p, r, h1, h2, h3, h4, q _ φ H .refl rs .bl⟩
theorem opd_ne : OpD X (rNeD X.K) fNe := by
  intro H φ st Q x y dx dy dz st' rs vx vy hf q
  unfold fNe at hf
  cases e : eqD dx dy st with
  | none => rw [e] at hf; cases hf
  | some b =>
    rw [e] at hf; cases hf
    obtain ⟨p, r, h1, h2, h3, h4, rfl⟩ := eqD_some rs vx vy e
    exact ⟨p, r, h1, h2, h3, h4, q _ φ H .refl rs .bl⟩
/-- x is None, x is not None -/
def isNonD : D → Bool
  | .non => true
  | _ => false
def fIsN : FD2 := fun x y st => match y with
  | .non => some (.bl (isNonD x), st)
  | _ => none
def fNotN : FD2 := fun x y st => match y with
  | .non => some (.bl (!isNonD x), st)
  | _ => none
theorem isNonD_ok {K : PySem.W.Frag} {H : Hp} {φ : List Addr} {v : V} {d : D} (h : VD K H φ v d) : decide (v = .non) = isNonD d := by
  cases h <;> rfl
theorem opd_isN : OpD X (fun x y H Q => y = .non ∧ Q (.bl (decide (x = .non))) H) fIsN := by
  intro H φ st Q x y dx dy dz st' rs vx vy hf q
  unfold fIsN at hf
  split at hf
  · cases hf; cases vy
    exact ⟨rfl, by rw [isNonD_ok vx]; exact q _ φ H .refl rs .bl⟩
  · cases hf
theorem opd_notN : OpD X (fun x y H Q => y = .non ∧ Q (.bl (!decide (x = .non))) H) fNotN := by
  intro H φ st Q x y dx dy dz st' rs vx vy hf q
  unfold fNotN at hf
  split at hf
  · cases hf; cases vy
    exact ⟨rfl, by rw [isNonD_ok vx]; exact q _ φ H .refl rs .bl⟩
  · cases hf
/-- a[i] -/
def fIx : FD2 := fun x y st => match x, y with
  | .tup ds, .int i => (atI ds i).map fun d => (d, st)
  | .mu l, .int i => (st[l]?).bind fun ds => (atI ds i).map fun d => (d, st)
  | .scr ns, .int i => (atI ns i).map fun d => (.int d, st)
  | _, _ => none
theorem atI_get {α : Type} {xs : List α} {i : Int} {x : α} (h : atI xs i = some x) : ∃ j, ixN xs.length i = some j ∧ xs[j]? = some x := by
  unfold atI at h
  cases e : ixN xs.length i with
  | none => rw [e] at h; cases h
  | some j => rw [e] at h; exact ⟨j, rfl, h⟩
theorem atI_mk {α : Type} {xs : List α} {i : Int} {x : α} {j : Nat} (h : ixN xs.length i = some j) (h2 : xs[j]? = some x) : atI xs i = some x := by
  unfold atI
  rw [h]; exact h2
def rIxA (K : PySem.W.Frag) : R2 := fun x y H Q => rIxL K x y H Q ∨ rIxT K x y H Q
theorem ix_A : IxR X (rIxA X.K) := ix_list.or ix_tup
theorem opd_ix : OpD X (rIxA X.K) fIx := by
  intro H φ st Q x y dx dy dz st' rs vx vy hf q
  unfold fIx at hf
  split at hf
  · rename_i ds i
    cases e : atI ds i with
    | none => rw [e] at hf; cases hf
    | some d =>
      rw [e] at hf; cases hf
      obtain ⟨a, vs, rfl, h1, h2⟩ := vx.tupI
      cases vy
      obtain ⟨j, e1, e2⟩ := atI_get e
      obtain ⟨v, e3, e4⟩ := h2.get e2
      exact .inr ⟨a, vs, i, v, rfl, rfl, h1, atI_mk (by rw [h2.length]; exact e1) e3, q _ φ H .refl rs e4⟩
  · rename_i l i
    cases e0 : st[l]? with
    | none => rw [e0] at hf; cases hf
    | some ds =>
      rw [e0] at hf
      replace hf : (atI ds i).map (fun d => (d, st)) = some (dz, st') := hf
      cases e : atI ds i with
      | none => rw [e] at hf; cases hf
      | some d =>
        rw [e] at hf; cases hf
        obtain ⟨a, rfl, ha⟩ := vx.mutI
        cases vy
        obtain ⟨vs, g1, g2⟩ := rs.get l a ds ha e0
        obtain ⟨j, e1, e2⟩ := atI_get e
        obtain ⟨v, e3, e4⟩ := g2.get e2
        exact .inl ⟨a, vs, i, v, rfl, rfl, .of g1, atI_mk (by rw [g2.length]; exact e1) e3, q _ φ H .refl rs e4⟩
  · rename_i ns i
    cases e : atI ns i with
    | none => rw [e] at hf; cases hf
    | some d =>
      rw [e] at hf; cases hf
      cases vx with
      | scr h1 =>
        cases vy
        obtain ⟨j, e1, e2⟩ := atI_get e
        exact .inl ⟨_, ns.map V.int, i, .int d, rfl, rfl, h1.sql, atI_mk (by rw [List.length_map]; exact e1) (by rw [List.getElem?_map, e2]; rfl), q _ φ H .refl rs .int⟩
  · cases hf
theorem de_ix {E : XK} {a b : Expr} {ma mb : MM D} {pos : Pos} (ha : DE X E a ma) (hb : DE X E b mb) (hs : PlainIx b) : DE X E (.Subscript a b pos) (mOp fIx ma mb) :=
  pe_imp (pe_ix ix_A ha hb hs) fun σ H Q h => op_bnd opd_ix h
end
end M2
set_option Elab.async false
set_option linter.all false
set_option maxRecDepth 100000
set_option maxHeartbeats 2000000
namespace M2
open PySem PySem.Spec PyProof.Rows L2
variable [Tb]

/-! ### a def's promise where nothing is being shown -/
structure FnG (P : Program) (w : World) (K : PySem.W.Frag) (mg : Str → Option Value) (base : Heap) (CX : CXT) (k : Nat) (f : Addr) (fd : FuncData) (ps : List Str) (sp : Sp) : Prop where
  len : ∀ vs H Q E, sp vs H Q E → vs.length = ps.length
  run : ∀ (A : Around) (ou : List Env) (s : Shared) (H : Hp) (ar : Args) (us : List Value) (vs : List V) (Q : VK) (E : XK), A.guards = some [] → Room k A → Env0 P w K mg base A ou s H →
    BindsTo s fd ar (ps.zip us) → Vals vs us → sp vs H Q E → codeAny (model P w) A (.call (.ref f) ar) (CR CX ou P w H s Q E) s
theorem FnG.mono {P : Program} {w : World} {K : PySem.W.Frag} {mg : Str → Option Value} {base : Heap} {CX : CXT} {j k : Nat} {f : Addr} {fd : FuncData} {ps : List Str} {sp : Sp} (F : FnG P w K mg base CX j f fd ps sp) (h : j ≤ k) : FnG P w K mg base CX k f fd ps sp :=
  ⟨F.len, fun A ou s H ar us vs Q E hg hr => F.run A ou s H ar us vs Q E hg (hr.mono h)⟩
section
variable {P : Program} {w : World} {K : PySem.W.Frag} {mg : Str → Option Value} {base : Heap}
theorem fng_ofC {CX : CXT} {k : Nat} {f : Addr} {x q : Str} {st : Stmt} {fd : FuncData} {N ps : List Str} {sp : Sp} (F : Fun K x q st f fd) (S : FnScope N ps (defScope st)) (len : ∀ vs H Q E, sp vs H Q E → vs.length = ps.length)
    (body : ∀ (cd : Value) (A : Around) (ou : List Env) (s : Shared) (H : Hp) (vs : List V) (Q : VK) (E : XK), fd.code = cd → A.guards = some [] → Room k (A.deeper (envOfC q (defScope st) s.heap.objs.size f cd)) → sp vs H Q E →
      ∃ t, PSs (cxOf CX P w K mg base N q (defScope st) f cd A ou s H E) (defBody st) t ∧ t { nx := fun _ H' => Q .non H', rt := Q } (start N vs) H) :
    FnG P w K mg base CX (k + 1) f fd ps sp := by
  obtain ⟨oc, od, kV, dc, pm, an, cdv, ct, osl, rfl, lk, hcd⟩ := F.ex
  refine ⟨len, fun A ou s H ar us vs Q E hgd room en0 bnds rel want => ?_⟩
  have inK : K.In s.heap := en0.mod.kin.keeps fun b o e => (en0.bs b o e).1
  have nolim : s.heap.NoLimit := en0.mod.nolimit.keeps fun b o e => (en0.bs b o e).1
  obtain ⟨t, tPs, tQ⟩ := body cdv A ou s H vs Q E rfl hgd (room.deeper _) want
  have cellP : ∀ y ∈ ps.zip us, (defScope st).names.lookup y.1 = some .local ∨
      ((defScope st).names.lookup y.1 = some .cell ∧ ((cellsFrom (s.heap.objs.size + 1) (defScope st).names []).lookup y.1).isSome = true) := by
    rintro ⟨n, v⟩ hy
    exact (S.par n (List.of_mem_zip hy).1).imp id fun z => ⟨z, PySem.W.cellsFrom_some _ _ _ (.inl z)⟩
  have ends : ∀ {τ : L2.St} {H2 : Hp} {v : V} {u : Value} {s2 : Shared}, Inv (cxOf CX P w K mg base N q (defScope st) f cdv A ou s H E) [] τ H2 s2 → RelV v u → Q v H2 → CE ou P w H s Q u s2 :=
    fun J rv qv => ⟨_, _, J.os, J.bare, J.base, J.hok, rv, qv⟩
  refine codeAny_call_function room.depth (inK _ _ lk) rfl S.co S.gen rfl (PySem.W.codeRec_of inK hcd) (bnds _ _ _ _ (wpAny_newFunctionEnv_cells S.kind cellP fun env he s1 made => ?_))
  subst he
  refine ⟨nolim.keeps made.toInCall.keep, codeAny_func ?_⟩
  have I0 := inv_start (CX := CX) (E := E) S room.hd en0 (len _ _ _ _ want) rel made
  refine wpAny_mono (tPs.run [] s1 (start N vs) H _ I0 tQ) (fun fl s2 z => ?_) fun _ _ z => z
  match fl, z with
  | .ret u, ⟨v, τ, H2, J, rv, qv⟩ => exact ends J rv qv
  | .next, ⟨τ, H2, J, qv⟩ => exact ends (v := V.non) (u := Value.none) J rfl qv
  | .brk, ⟨_, _, _, qv⟩ => exact qv.elim
  | .cont, ⟨_, _, _, qv⟩ => exact qv.elim
theorem fng_of {CX : CXT} {k : Nat} {f : Addr} {x q : Str} {st : Stmt} {fd : FuncData} {N ps : List Str} {sp : Sp} (F : Fun K x q st f fd) (S : FnScope N ps (defScope st)) (len : ∀ vs H Q E, sp vs H Q E → vs.length = ps.length)
    (body : ∀ (cd : Value) (A : Around) (ou : List Env) (s : Shared) (H : Hp) (vs : List V) (Q : VK) (E : XK), A.guards = some [] → Room k (A.deeper (envOfC q (defScope st) s.heap.objs.size f cd)) → sp vs H Q E →
      ∃ t, PSs (cxOf CX P w K mg base N q (defScope st) f cd A ou s H E) (defBody st) t ∧ t { nx := fun _ H' => Q .non H', rt := Q } (start N vs) H) :
    FnG P w K mg base CX (k + 1) f fd ps sp := fng_ofC F S len fun cd A ou s H vs Q E _ => body cd A ou s H vs Q E
end

section
variable {X : Cx} {CX : CXT} {k : Nat} {f : Addr} {fd : FuncData} {ps : List Str} {sp : Sp} {E : XK} {x : Str} {p pos : Pos} {e : Expr} {es : List Expr} {t : TA}
theorem pe_callG (F : FnG X.prog X.w X.K X.mg X.base CX k f fd ps sp) (hgd : X.A.guards = some []) (hr : Room k X.A) (hg : Gl X x) (hm : X.mg x = some (.ref f)) (hk : PySem.W.keepIn X.K (.ref f) = true) (hb : Binds X.K fd ps []) (hx : Passes CX X E)
    (ha : PA X (e :: es) t) (hdb : (x == ("__debug__" : Str)) = false) (he : starEach (e :: es) X.env = (false, eval e X.env) :: starEach es X.env) (hpl : (backTo pos (starEach es X.env)).any (·.1) = false) :
    PE X (.Call (.Name x p) (e :: es) [] pos) (fun σ H Q => t σ H fun vs H1 => sp vs H1 Q E) := by
  refine ⟨fun pins s σ H Q I h => wpAny_Call_Name_kw (ld_glob I hg hm (PySem.W.callWith_K (h₀ := X.base) I.ok.mod.kin hk ?_ he hpl) hdb)⟩
  refine thn (ha.run pos pins s σ H _ I h) fun us s1 ⟨vs, H1, I1, r, q⟩ => ⟨I1.kIn, wpAny_call (codeAny_mono (F.run X.A X.stack s1 H1 ⟨us, []⟩ us vs Q E hgd hr I1.env0 ?_ r q) fun res s2 z => ?_)⟩
  · have hz := hb s1 us I1.kIn (by rw [List.append_nil, ← r.length]; exact F.len _ _ _ _ q)
    rwa [List.append_nil] at hz
  · match res, z with
    | .error er, z => exact hx pins σ H1 s1 er s2 I1 z
    | .ok (.ret u), z => exact I1.after z
theorem pe_callG0 (F : FnG X.prog X.w X.K X.mg X.base CX k f fd ps sp) (hgd : X.A.guards = some []) (hr : Room k X.A) (hg : Gl X x) (hm : X.mg x = some (.ref f)) (hk : PySem.W.keepIn X.K (.ref f) = true) (hb : Binds X.K fd ps []) (hx : Passes CX X E)
    (hdb : (x == ("__debug__" : Str)) = false) :
    PE X (.Call (.Name x p) [] [] pos) (fun σ H Q => sp [] H Q E) := by
  refine ⟨fun pins s σ H Q I h => wpAny_Call_Name_kw (ld_glob I hg hm ?_ hdb)⟩
  refine PySem.W.callWith_K0 I.kIn hk (wpAny_call (codeAny_mono (F.run X.A X.stack s H ⟨[], []⟩ [] [] Q E hgd hr I.env0 ?_ .nil h) fun res s2 z => ?_))
  · have hz := hb s [] I.kIn (by rw [List.append_nil]; exact F.len _ _ _ _ h)
    rwa [List.append_nil] at hz
  · match res, z with
    | .error er, z => exact hx pins σ H s er s2 I z
    | .ok (.ret u), z => exact I.after z
end

/-! ### a def by its mirror -/
abbrev FD := List D → Sto → Option (Except Er D × Sto)
def spF (K : PySem.W.Frag) (n : Nat) (F : FD) : Sp := fun vs H Q E => ∃ ds st φ r st', VDs K H φ vs ds ∧ RS K H φ st ∧ ds.length = n ∧ F ds st = some (r, st') ∧
  ∀ φ' H', KX H φ H' φ' → RS K H' φ' st' → Pst K E (fun d φ' H' => ∀ v, VD K H' φ' v d → Q v H') r φ' H'
structure Df (P : Program) (w : World) (K : PySem.W.Frag) (mg : Str → Option Value) (base : Heap) (x : Str) (k n : Nat) (F : FD) : Prop where
  ex : ∃ (f : Addr) (fd : FuncData) (ps : List Str), mg x = some (.ref f) ∧ PySem.W.keepIn K (.ref f) = true ∧ Binds K fd ps [] ∧ FnG P w K mg base (L2.CX P w) k f fd ps (spF K n F)
def mCall (n : Nat) (F : FD) (m : MM (List D)) : MM D := bnd m fun ds => fun _ st => if ds.length = n then F ds st else none
section
variable {X : Cx} {E : XK} {x : Str} {p pos : Pos} {e : Expr} {es : List Expr} {m : MM (List D)} {k n : Nat} {F : FD}
theorem de_call (d : Df X.prog X.w X.K X.mg X.base x k n F) (hgd : X.A.guards = some []) (hr : Room k X.A) (hx : Passes (L2.CX X.prog X.w) X E) (hg : Gl X x) (ha : DA X E (e :: es) m)
    (hdb : (x == ("__debug__" : Str)) = false) (he : starEach (e :: es) X.env = (false, eval e X.env) :: starEach es X.env) (hpl : (backTo pos (starEach es X.env)).any (·.1) = false) :
    DE X E (.Call (.Name x p) (e :: es) [] pos) (mCall n F m) := by
  obtain ⟨f, fd, ps, hm, hk, hb, hF⟩ := d.ex
  refine pe_imp (pe_callG hF hgd hr hg hm hk hb hx ha hdb he hpl) fun σ H Q ⟨en, st, φ, g⟩ => ⟨en, st, φ, g.bind.imp fun st1 ds φ1 H1 _ _ ⟨k1, r1, g1⟩ vs hv => ?_⟩
  obtain ⟨re, rs, r, st', em, q⟩ := g1
  split at em
  · rename_i hn
    exact ⟨ds, st1, φ1, r, st', hv, r1, hn, em, q⟩
  · cases em
theorem de_call0 (d : Df X.prog X.w X.K X.mg X.base x k 0 F) (hgd : X.A.guards = some []) (hr : Room k X.A) (hx : Passes (L2.CX X.prog X.w) X E) (hg : Gl X x) (hdb : (x == ("__debug__" : Str)) = false) :
    DE X E (.Call (.Name x p) [] [] pos) (mCall 0 F (mArgs [])) := by
  obtain ⟨f, fd, ps, hm, hk, hb, hF⟩ := d.ex
  refine pe_imp (pe_callG0 hF hgd hr hg hm hk hb hx hdb) fun σ H Q ⟨en, st, φ, g⟩ => ?_
  obtain ⟨re, rs, r, st', em, q⟩ := g
  exact ⟨[], st, φ, r, st', .nil, rs, rfl, em, q⟩
end

/-! ### built-in functions by data -/
abbrev FDB := List D → Sto → Option (D × Sto)
def CalD (X : Cx) (r : List V → Hp → VK → Prop) (f : FDB) : Prop := ∀ H φ st (Q : VK) vs ds dz st', RS X.K H φ st → VDs X.K H φ vs ds → f ds st = some (dz, st') → (∀ v φ' H', KX H φ H' φ' → RS X.K H' φ' st' → VD X.K H' φ' v dz → Q v H') → r vs H Q
def mBlt (f : FDB) (m : MM (List D)) : MM D := bnd m fun ds => stm (f ds)
section
variable {X : Cx} {E : XK} {x : Str} {p pos : Pos} {e : Expr} {es : List Expr} {m : MM (List D)} {id T : String} {r : List V → Hp → VK → Prop} {f : FDB}
theorem blt_bnd {σ : L2.St} {H : Hp} {Q : VK} (hf : CalD X r f) (h : tM X.K E (mBlt f m) σ H Q) : tCB r (tAM X.K E m) σ H Q := by
  obtain ⟨en, st, φ, g⟩ := h
  refine ⟨en, st, φ, g.bind.imp fun st1 ds φ1 H1 _ _ ⟨k1, r1, g1⟩ vs hv => ?_⟩
  obtain ⟨dz, st', hz, q⟩ := g1.stm
  exact hf H1 φ1 st1 Q vs ds dz st' r1 hv hz fun v φ' H' kx rs' vd => q φ' H' kx rs' v vd
theorem de_blt (hc : CallR X (.builtin id) r) (hf : CalD X r f) (hg : Gl X x) (hm : X.mg x = none) (hv : bootBuiltins x = some (.builtin id)) (ha : DA X E (e :: es) m) (hn : x ≠ "__name__") (hdb : (x == ("__debug__" : Str)) = false)
    (he : starEach (e :: es) X.env = (false, eval e X.env) :: starEach es X.env) (hpl : (backTo pos (starEach es X.env)).any (·.1) = false) : DE X E (.Call (.Name x p) (e :: es) [] pos) (mBlt f m) :=
  pe_imp (pe_callB hc hg hm hv ha hn hdb he hpl) fun σ H Q h => blt_bnd hf h
theorem de_bty (hc : CallR X (.type T) r) (hf : CalD X r f) (hg : Gl X x) (hm : X.mg x = none) (hv : bootBuiltins x = some (.type T)) (ha : DA X E (e :: es) m) (hn : x ≠ "__name__") (hdb : (x == ("__debug__" : Str)) = false)
    (he : starEach (e :: es) X.env = (false, eval e X.env) :: starEach es X.env) (hpl : (backTo pos (starEach es X.env)).any (·.1) = false) : DE X E (.Call (.Name x p) (e :: es) [] pos) (mBlt f m) :=
  pe_imp (pe_callTy hc hg hm hv ha hn hdb he hpl) fun σ H Q h => blt_bnd hf h
theorem VDs.one {K : PySem.W.Frag} {H : Hp} {φ : List Addr} {vs : List V} {d : D} (h : VDs K H φ vs [d]) : ∃ v, vs = [v] ∧ VD K H φ v d := by
  cases h with
  | cons h1 h2 => cases h2; exact ⟨_, rfl, h1⟩
theorem VDs.two {K : PySem.W.Frag} {H : Hp} {φ : List Addr} {vs : List V} {d e : D} (h : VDs K H φ vs [d, e]) : ∃ v u, vs = [v, u] ∧ VD K H φ v d ∧ VD K H φ u e := by
  cases h with
  | cons h1 h2 => obtain ⟨u, rfl, h3⟩ := h2.one; exact ⟨_, u, rfl, h1, h3⟩
/-- len -/
def fLen : FDB := fun ds st => match ds with
  | [.tup xs] => some (.int xs.length, st)
  | [.mu l] => (st[l]?).map fun xs => (.int xs.length, st)
  | [.scr ns] => some (.int ns.length, st)
  | _ => none
theorem cal_len : CalD X (fun xs H Q => ∃ p ys, xs = [.ref p] ∧ (SqL X.K H p ys ∨ SqT X.K H p ys) ∧ Q (.int ys.length) H) fLen := by
  intro H φ st Q vs ds dz st' rs hv hf q
  unfold fLen at hf
  split at hf
  · cases hf
    obtain ⟨v, rfl, h⟩ := hv.one
    obtain ⟨a, ws, rfl, h1, h2⟩ := h.tupI
    exact ⟨a, ws, rfl, .inr h1, by rw [h2.length]; exact q _ φ H .refl rs .int⟩
  · rename_i l
    cases e : st[l]? with
    | none => rw [e] at hf; cases hf
    | some xs =>
      rw [e] at hf; cases hf
      obtain ⟨v, rfl, h⟩ := hv.one
      obtain ⟨a, rfl, ha⟩ := h.mutI
      obtain ⟨ws, g1, g2⟩ := rs.get l a xs ha e
      exact ⟨a, ws, rfl, .inl (.of g1), by rw [g2.length]; exact q _ φ H .refl rs .int⟩
  · rename_i ns
    cases hf
    obtain ⟨v, rfl, h⟩ := hv.one
    cases h with
    | scr h1 => exact ⟨_, _, rfl, .inl h1.sql, by rw [List.length_map]; exact q _ φ H .refl rs .int⟩
  · cases hf
/-- max(i, j), min(i, j) -/
def fMax2 : FDB := fun ds st => match ds with
  | [.int i, .int j] => some (.int (if j > i then j else i), st)
  | _ => none
def fMin2 : FDB := fun ds st => match ds with
  | [.int i, .int j] => some (.int (if j < i then j else i), st)
  | _ => none
theorem cal_max2 : CalD X (fun xs H Q => ∃ i j, xs = [.int i, .int j] ∧ Q (.int (if j > i then j else i)) H) fMax2 := by
  intro H φ st Q vs ds dz st' rs hv hf q
  unfold fMax2 at hf
  split at hf
  · cases hf
    obtain ⟨v, u, rfl, h1, h2⟩ := hv.two
    cases h1; cases h2
    exact ⟨_, _, rfl, q _ φ H .refl rs .int⟩
  · cases hf
theorem cal_min2 : CalD X (fun xs H Q => ∃ i j, xs = [.int i, .int j] ∧ Q (.int (if j < i then j else i)) H) fMin2 := by
  intro H φ st Q vs ds dz st' rs hv hf q
  unfold fMin2 at hf
  split at hf
  · cases hf
    obtain ⟨v, u, rfl, h1, h2⟩ := hv.two
    cases h1; cases h2
    exact ⟨_, _, rfl, q _ φ H .refl rs .int⟩
  · cases hf
/-- a list of ints, of bools -/
def intsD : List D → Option (List Int)
  | [] => some []
  | .int i :: r => (intsD r).map (i :: ·)
  | _ :: _ => none
theorem intsD_eq : ∀ {ds : List D} {ns : List Int}, intsD ds = some ns → ds = ns.map D.int
  | [], ns, h => by unfold intsD at h; cases h; rfl
  | .int i :: r, ns, h => by
    unfold intsD at h
    cases e : intsD r with
    | none => rw [e] at h; cases h
    | some ms => rw [e] at h; cases h; rw [intsD_eq e]; rfl
theorem intsD_map : ∀ (ns : List Int), intsD (ns.map D.int) = some ns
  | [] => rfl
  | n :: ns => by
    show (intsD (ns.map D.int)).map (n :: ·) = _
    rw [intsD_map ns]; rfl
def blsD : List D → Option (List Bool)
  | [] => some []
  | .bl i :: r => (blsD r).map (i :: ·)
  | _ :: _ => none
theorem blsD_eq : ∀ {ds : List D} {ns : List Bool}, blsD ds = some ns → ds = ns.map D.bl
  | [], ns, h => by unfold blsD at h; cases h; rfl
  | .bl i :: r, ns, h => by
    unfold blsD at h
    cases e : blsD r with
    | none => rw [e] at h; cases h
    | some ms => rw [e] at h; cases h; rw [blsD_eq e]; rfl
theorem blsD_map : ∀ (ns : List Bool), blsD (ns.map D.bl) = some ns
  | [] => rfl
  | n :: ns => by
    show (blsD (ns.map D.bl)).map (n :: ·) = _
    rw [blsD_map ns]; rfl
def onInts (f : List Int → Option Int) : FDB := fun ds st => match ds with
  | [.mu l] => ((st[l]?).bind intsD).bind fun ns => (f ns).map fun i => (.int i, st)
  | _ => none
theorem onInts_some {f : List Int → Option Int} {ds : List D} {st st' : Sto} {dz : D} (h : onInts f ds st = some (dz, st')) : ∃ l ns i, ds = [.mu l] ∧ st[l]? = some (ns.map D.int) ∧ f ns = some i ∧ dz = .int i ∧ st' = st := by
  unfold onInts at h
  split at h
  · rename_i l
    cases e : st[l]? with
    | none => rw [e] at h; cases h
    | some xs =>
      rw [e] at h
      cases e2 : intsD xs with
      | none => rw [show ((some xs).bind intsD) = intsD xs from rfl, e2] at h; cases h
      | some ns =>
        rw [show ((some xs).bind intsD) = intsD xs from rfl, e2] at h
        cases e3 : f ns with
        | none => rw [show ((some ns).bind fun ns => (f ns).map fun i => (D.int i, st)) = (f ns).map (fun i => (D.int i, st)) from rfl, e3] at h; cases h
        | some i =>
          rw [show ((some ns).bind fun ns => (f ns).map fun i => (D.int i, st)) = (f ns).map (fun i => (D.int i, st)) from rfl, e3] at h
          cases h
          exact ⟨l, ns, i, rfl, by rw [e, intsD_eq e2], e3, rfl, rfl⟩
  · cases h
def fSum : FDB := onInts fun ns => some ns.sum
theorem cal_sum : CalD X (rSum X.K) fSum := by
  intro H φ st Q vs ds dz st' rs hv hf q
  obtain ⟨l, ns, i, rfl, e, hi, rfl, rfl⟩ := onInts_some hf
  cases hi
  obtain ⟨v, rfl, h⟩ := hv.one
  obtain ⟨a, rfl, ha⟩ := h.mutI
  obtain ⟨ws, g1, g2⟩ := rs.get l a _ ha e
  exact ⟨a, ns, rfl, by rw [← g2.ints]; exact .of g1, q _ φ H .refl rs .int⟩
def maxL : List Int → Option Int
  | [] => none
  | n :: ns => some (ns.foldl max n)
def minL : List Int → Option Int
  | [] => none
  | n :: ns => some (ns.foldl min n)
theorem foldl_max : ∀ (ns : List Int) (n : Int), (ns.foldl max n = n ∨ ns.foldl max n ∈ ns) ∧ n ≤ ns.foldl max n ∧ ∀ y ∈ ns, y ≤ ns.foldl max n
  | [], n => ⟨.inl rfl, Int.le_refl _, fun _ h => nomatch h⟩
  | a :: r, n => by
    obtain ⟨h1, h2, h3⟩ := foldl_max r (max n a)
    simp only [List.foldl_cons]
    refine ⟨?_, by omega, fun y hy => ?_⟩
    · rcases h1 with h1 | h1
      · rw [h1]
        by_cases c : n ≤ a
        · exact .inr (by rw [show max n a = a by omega]; exact List.mem_cons_self)
        · exact .inl (by omega)
      · exact .inr (List.mem_cons_of_mem _ h1)
    · rcases List.mem_cons.mp hy with rfl | hy
      · omega
      · exact h3 y hy
theorem foldl_min : ∀ (ns : List Int) (n : Int), (ns.foldl min n = n ∨ ns.foldl min n ∈ ns) ∧ ns.foldl min n ≤ n ∧ ∀ y ∈ ns, ns.foldl min n ≤ y
  | [], n => ⟨.inl rfl, Int.le_refl _, fun _ h => nomatch h⟩
  | a :: r, n => by
    obtain ⟨h1, h2, h3⟩ := foldl_min r (min n a)
    simp only [List.foldl_cons]
    refine ⟨?_, by omega, fun y hy => ?_⟩
    · rcases h1 with h1 | h1
      · rw [h1]
        by_cases c : a ≤ n
        · exact .inr (by rw [show min n a = a by omega]; exact List.mem_cons_self)
        · exact .inl (by omega)
      · exact .inr (List.mem_cons_of_mem _ h1)
    · rcases List.mem_cons.mp hy with rfl | hy
      · omega
      · exact h3 y hy
theorem maxL_some {ns : List Int} {m : Int} (h : maxL ns = some m) : m ∈ ns ∧ ∀ y ∈ ns, y ≤ m := by
  cases ns with
  | nil => cases h
  | cons n ns =>
    cases h
    obtain ⟨h1, h2, h3⟩ := foldl_max ns n
    refine ⟨?_, fun y hy => ?_⟩
    · rcases h1 with h1 | h1
      · rw [h1]; exact List.mem_cons_self
      · exact List.mem_cons_of_mem _ h1
    · rcases List.mem_cons.mp hy with rfl | hy
      · exact h2
      · exact h3 y hy
theorem minL_some {ns : List Int} {m : Int} (h : minL ns = some m) : m ∈ ns ∧ ∀ y ∈ ns, m ≤ y := by
  cases ns with
  | nil => cases h
  | cons n ns =>
    cases h
    obtain ⟨h1, h2, h3⟩ := foldl_min ns n
    refine ⟨?_, fun y hy => ?_⟩
    · rcases h1 with h1 | h1
      · rw [h1]; exact List.mem_cons_self
      · exact List.mem_cons_of_mem _ h1
    · rcases List.mem_cons.mp hy with rfl | hy
      · exact h2
      · exact h3 y hy
def fMaxL : FDB := onInts maxL
def fMinL : FDB := onInts minL
theorem cal_maxL : CalD X (rMax X.K) fMaxL := by
  intro H φ st Q vs ds dz st' rs hv hf q
  obtain ⟨l, ns, i, rfl, e, hi, rfl, rfl⟩ := onInts_some hf
  obtain ⟨v, rfl, h⟩ := hv.one
  obtain ⟨a, rfl, ha⟩ := h.mutI
  obtain ⟨ws, g1, g2⟩ := rs.get l a _ ha e
  obtain ⟨m1, m2⟩ := maxL_some hi
  refine ⟨a, ns, rfl, by rw [← g2.ints]; exact .of g1, List.length_pos_of_mem m1, fun m hm hall => ?_⟩
  have e2 : m = i := Int.le_antisymm (m2 m hm) (hall i m1)
  rw [e2]
  exact q _ φ H .refl rs .int
theorem cal_minL : CalD X (rMin X.K) fMinL := by
  intro H φ st Q vs ds dz st' rs hv hf q
  obtain ⟨l, ns, i, rfl, e, hi, rfl, rfl⟩ := onInts_some hf
  obtain ⟨v, rfl, h⟩ := hv.one
  obtain ⟨a, rfl, ha⟩ := h.mutI
  obtain ⟨ws, g1, g2⟩ := rs.get l a _ ha e
  obtain ⟨m1, m2⟩ := minL_some hi
  refine ⟨a, ns, rfl, by rw [← g2.ints]; exact .of g1, List.length_pos_of_mem m1, fun m hm hall => ?_⟩
  have e2 : m = i := Int.le_antisymm (hall i m1) (m2 m hm)
  rw [e2]
  exact q _ φ H .refl rs .int
/-- all, any of a list of bools -/
def fAll : FDB := fun ds st => match ds with
  | [.mu l] => ((st[l]?).bind blsD).map fun bs => (.bl (bs.all fun b => b), st)
  | _ => none
theorem cal_all : CalD X (rAll X.K) fAll := by
  intro H φ st Q vs ds dz st' rs hv hf q
  unfold fAll at hf
  split at hf
  · rename_i l
    cases e : st[l]? with
    | none => rw [e] at hf; cases hf
    | some xs =>
      rw [e] at hf
      cases e2 : blsD xs with
      | none => rw [show ((some xs).bind blsD) = blsD xs from rfl, e2] at hf; cases hf
      | some bs =>
        rw [show ((some xs).bind blsD) = blsD xs from rfl, e2] at hf
        cases hf
        obtain ⟨v, rfl, h⟩ := hv.one
        obtain ⟨a, rfl, ha⟩ := h.mutI
        obtain ⟨ws, g1, g2⟩ := rs.get l a _ ha e
        rw [blsD_eq e2] at g2
        exact ⟨a, bs, rfl, by rw [← g2.bls]; exact .of g1, q _ φ H .refl rs .bl⟩
  · cases hf
/-- tuple(list), tuple(tuple), list(..) -/
def fTuple : FDB := fun ds st => match ds with
  | [.tup xs] => some (.tup xs, st)
  | [.mu l] => (st[l]?).map fun xs => (.tup xs, st)
  | _ => none
theorem cal_tuple : CalD X (fun xs H Q => ∃ p ys, xs = [.ref p] ∧ ((SqL X.K H p ys ∧ ∀ l, H l = none → Q (.ref l) (upd H l (.tup ys))) ∨ (SqT X.K H p ys ∧ Q (.ref p) H))) fTuple := by
  intro H φ st Q vs ds dz st' rs hv hf q
  unfold fTuple at hf
  split at hf
  · cases hf
    obtain ⟨v, rfl, h⟩ := hv.one
    obtain ⟨a, ws, rfl, h1, h2⟩ := h.tupI
    exact ⟨a, ws, rfl, .inr ⟨h1, q _ φ H .refl rs (.tup h1 h2)⟩⟩
  · rename_i l
    cases e : st[l]? with
    | none => rw [e] at hf; cases hf
    | some xs =>
      rw [e] at hf; cases hf
      obtain ⟨v, rfl, h⟩ := hv.one
      obtain ⟨a, rfl, ha⟩ := h.mutI
      obtain ⟨ws, g1, g2⟩ := rs.get l a xs ha e
      refine ⟨a, ws, rfl, .inl ⟨.of g1, fun p hp => ?_⟩⟩
      obtain ⟨kx, r⟩ := lay_tup (xs := ws) rs hp
      exact q _ φ _ kx r (.tup (.of upd_same) (g2.mono kx))
  · cases hf
def fList : FDB := fun ds st => match ds with
  | [.tup xs] => some (.mu st.length, st ++ [xs])
  | [.mu l] => (st[l]?).map fun xs => (.mu st.length, st ++ [xs])
  | _ => none
theorem cal_list : CalD X (fun xs H Q => ∃ p ys, xs = [.ref p] ∧ (SqL X.K H p ys ∨ SqT X.K H p ys) ∧ ∀ l, H l = none → Q (.ref l) (upd H l (.lst ys))) fList := by
  intro H φ st Q vs ds dz st' rs hv hf q
  have fin : ∀ {p : Addr} {ws : List V} {xs : List D}, H p = none → VDs X.K H φ ws xs → dz = .mu st.length → st' = st ++ [xs] → Q (.ref p) (upd H p (.lst ws)) := fun {p ws xs} hp g e1 e2 => by
    subst e1 e2
    obtain ⟨kx, r⟩ := lay_lst (xs := ws) (ds := xs) rs hp g
    exact q _ _ _ kx r (.mu (by rw [← rs.len, List.getElem?_append_right (Nat.le_refl _)]; simp) ⟨_, upd_same⟩)
  unfold fList at hf
  split at hf
  · cases hf
    obtain ⟨v, rfl, h⟩ := hv.one
    obtain ⟨a, ws, rfl, h1, h2⟩ := h.tupI
    exact ⟨a, ws, rfl, .inr h1, fun p hp => fin hp h2 rfl rfl⟩
  · rename_i l
    cases e : st[l]? with
    | none => rw [e] at hf; cases hf
    | some xs =>
      rw [e] at hf; cases hf
      obtain ⟨v, rfl, h⟩ := hv.one
      obtain ⟨a, rfl, ha⟩ := h.mutI
      obtain ⟨ws, g1, g2⟩ := rs.get l a xs ha e
      exact ⟨a, ws, rfl, .inl (.of g1), fun p hp => fin hp g2 rfl rfl⟩
  · cases hf
/-- isinstance(x, a built-in type) -/
def tyN : D → Option String
  | .non => some "NoneType"
  | .bl _ => some "bool"
  | .int _ => some "int"
  | .str _ => some "str"
  | .tup _ => some "tuple"
  | .mu _ => some "list"
  | .scr _ => some "list"
  | .dic _ => some "dict"
  | _ => none
def fIsi : FDB := fun ds st => match ds with
  | [d, .ty n] => (tyN d).bind fun t => (kitB t n).map fun b => (.bl b, st)
  | _ => none
theorem tyN_ok {H : Hp} {φ : List Addr} {st : Sto} {v : V} {d : D} {t : String} (K : PySem.W.Frag) (rs : RS K H φ st) (h : VD K H φ v d) (e : tyN d = some t) : TyX K H v (.type t) := by
  cases h with
  | non => cases e; exact .base .non
  | bl => cases e; exact .base (.bl _)
  | int => cases e; exact .base (.int _)
  | str => cases e; exact .base (.str _)
  | tup h1 h2 =>
    cases e
    rcases h1 with (h1 | ⟨o, h1⟩) | ⟨o, its, n, h1, h2, _⟩
    · exact .base (.tup h1)
    · exact .fTuple h1
    · exact .kTuple h1 h2
  | @mu l a h1 hm1 =>
    cases e
    have hl : l < st.length := by rw [← rs.len]; exact (List.getElem?_eq_some_iff.mp h1).1
    obtain ⟨ws, g, _⟩ := rs.get l a st[l] ⟨h1, hm1⟩ (List.getElem?_eq_getElem hl)
    exact .base (.lst g)
  | scr h1 =>
    cases e
    rcases h1 with ⟨o, h1⟩ | ⟨o, its, n, h1, h2, _⟩
    · exact .base (.frz h1)
    · exact .kList h1 h2
  | ty => cases e
  | cls => cases e
  | cln => cases e
  | exc => cases e
  | exf => cases e
  | tpn => cases e
  | cxd => cases e
  | dic h1 _ _ => cases e; exact .base (.dK h1)
  | key h1 => cases e
  | mdt h1 h2 => cases e
  | obj h1 h2 => cases e
theorem cal_isi : CalD X (rIsi X.K) fIsi := by
  intro H φ st Q vs ds dz st' rs hv hf q
  unfold fIsi at hf
  split at hf
  · rename_i d n
    cases e : tyN d with
    | none => rw [e] at hf; cases hf
    | some t =>
      rw [e] at hf
      replace hf : (kitB t n).map (fun b => (D.bl b, st)) = some (dz, st') := hf
      cases e2 : kitB t n with
      | none => rw [e2] at hf; cases hf
      | some b =>
        rw [e2] at hf; cases hf
        obtain ⟨v, u, rfl, h1, h2⟩ := hv.two
        cases h2
        exact ⟨v, .ty n, .type t, .type n, b, rfl, .ty n, tyN_ok X.K rs h1 e, kit_ty e2, q _ φ H .refl rs .bl⟩
  · cases hf
/-- repr of data -/
def fRepr : FDB := fun ds st => match ds with
  | [d] => (dat st 64 d).bind fun p => if p.canLay0 = true ∧ p.showable = true ∧ p.shown.length ≤ sizeLine then some (.str p.shown, st) else none
  | _ => none
def rRepr (K : PySem.W.Frag) : List V → Hp → VK → Prop := fun xs H Q => ∃ v p, xs = [v] ∧ Dp K H v p ∧ p.depth ≤ 64 ∧ p.canLay0 = true ∧ p.showable = true ∧ p.shown.length ≤ sizeLine ∧ Q (.str p.shown) H
theorem call_reprD (hgd : X.A.guards = some []) (hu : X.A.units + 66 < cLine) : CallR X (.builtin "repr") (rRepr X.K) := by
  intro pins s σ H xs us Q I r h
  obtain ⟨v, p, rfl, hd, hdp, hcl, hs, hz, q⟩ := h
  obtain ⟨u, rfl, ru⟩ := vals1 r
  obtain ⟨as, rd⟩ := Dp.reads I p v u hd ru
  cases rd with
  | none => simp only [PyData.shown] at q; exact PySem.P.repr_of_none ⟨.str _, H, I.tok _, ⟨_, rfl⟩, q⟩
  | bool b => simp only [PyData.shown] at q; exact PySem.P.repr_of_bool ⟨.str _, H, I.tok _, ⟨_, rfl⟩, q⟩
  | int i t => simp only [PyData.shown] at q; exact PySem.P.repr_of_int (by simpa [PyData.showable] using hs) ⟨.str _, H, I.tok _, ⟨_, rfl⟩, q⟩
  | str x t => simp only [PyData.shown] at q hz; exact PySem.P.repr_of_str ⟨.str _, H, I.tok _, ⟨_, rfl⟩, q⟩ hz
  | list h1 h2 h3 h4 =>
    exact repr_of_reads' (.list h1 h2 h3 h4) hs (fun z => absurd ((PyData.hasDict_of_canLay _ hcl).symm.trans z) Bool.false_ne_true) hgd (by omega) (fun _ _ e => e) (fun h' t tk hk => ⟨.str _, H, I.kept hk, ⟨_, rfl⟩, q⟩) hz
  | tuple h1 h2 h3 h4 =>
    exact repr_of_reads' (.tuple h1 h2 h3 h4) hs (fun z => absurd ((PyData.hasDict_of_canLay _ hcl).symm.trans z) Bool.false_ne_true) hgd (by omega) (fun _ _ e => e) (fun h' t tk hk => ⟨.str _, H, I.kept hk, ⟨_, rfl⟩, q⟩) hz
  | dict h1 h2 h3 h4 h5 => simp [PyData.canLay0] at hcl
theorem cal_repr : CalD X (rRepr X.K) fRepr := by
  intro H φ st Q vs ds dz st' rs hv hf q
  unfold fRepr at hf
  split at hf
  · rename_i d
    cases e : dat st 64 d with
    | none => rw [e] at hf; cases hf
    | some p =>
      rw [e] at hf
      replace hf : (if p.canLay0 = true ∧ p.showable = true ∧ p.shown.length ≤ sizeLine then some (D.str p.shown, st) else none) = some (dz, st') := hf
      split at hf
      · rename_i c
        cases hf
        obtain ⟨v, rfl, h⟩ := hv.one
        obtain ⟨a1, a2⟩ := dat_dp rs 64 d v p h e
        exact ⟨v, p, rfl, a1, a2, c.1, c.2.1, c.2.2, q _ φ H .refl rs .str⟩
      · cases hf
  · cases hf
end
end M2
set_option Elab.async false
set_option linter.all false
set_option maxRecDepth 100000
set_option maxHeartbeats 2000000
namespace M2
open PySem PySem.Spec PyProof.Rows L2
variable [Tb]

abbrev DW (X : Cx) (E : XK) (e : Expr) (m : MM Bool) : Prop := PW X e (tTM X.K E m)
theorem pw_imp {X : Cx} {e : Expr} {t t' : TT} (h : PW X e t) (f : ∀ σ H Q, t' σ H Q → t σ H Q) : PW X e t' := ⟨fun wh pins s σ H Q I w => h.run wh pins s σ H Q I (f σ H Q w)⟩

/-! ### tests, and, or, not, a chain, a if c else b -/
def boolD : D → Option Bool
  | .bl b => some b
  | _ => none
def mB (m : MM D) : MM Bool := bnd m fun d => lft (boolD d)
def truD (d : D) (st : Sto) : Option Bool := match d with
  | .non => some false
  | .bl b => some b
  | .int i => some (i != 0)
  | .tup ds => some (!ds.isEmpty)
  | .mu l => (st[l]?).map fun ds => !ds.isEmpty
  | .scr ns => some (!ns.isEmpty)
  | _ => none
def mTru (m : MM D) : MM Bool := bnd m fun d => asg fun _ st => truD d st
def mAnd (a b : MM Bool) : MM Bool := bnd a fun c => if c = true then b else ret false
def mOr (a b : MM Bool) : MM Bool := bnd a fun c => if c = true then ret true else b
def mNot (a : MM Bool) : MM Bool := bnd a fun c => ret (!c)
def mAndV (a b : MM D) : MM D := bnd a fun d => bnd (lft (boolD d)) fun c => if c = true then b else ret (.bl false)
def mOrV (a b : MM D) : MM D := bnd a fun d => bnd (lft (boolD d)) fun c => if c = true then ret (.bl true) else b
def mNotV (a : MM D) : MM D := bnd a fun d => bnd (lft (boolD d)) fun c => ret (.bl (!c))
def mIf (c : MM Bool) (a b : MM D) : MM D := bnd c fun k => if k = true then a else b
def mChain (f g : FD2) (a b c : MM D) : MM D := bnd a fun x => bnd b fun y => bnd (stm (f x y)) fun d => bnd (lft (boolD d)) fun k => if k = true then bnd c fun z => stm (g y z) else ret (.bl false)
section
variable {X : Cx} {E : XK} {pos : Pos} {a b c e : Expr} {rest : List Expr} {ma mb mc : MM D} {ta tb tc : MM Bool} {op op' : CmpOp} {r r' : R2} {f g : FD2}
theorem boolD_some {d : D} {b : Bool} (h : boolD d = some b) : d = .bl b := by
  cases d <;> first | (cases h; rfl) | cases h
theorem mB_tM {σ : L2.St} {H : Hp} {Q : Bool → Hp → Prop} (h : tTM X.K E (mB ma) σ H Q) : tM X.K E ma σ H fun x H' => ∃ k, x = .bl k ∧ Q k H' := by
  obtain ⟨en, st, φ, g⟩ := h
  refine ⟨en, st, φ, g.bind.imp fun st1 d φ1 H1 _ _ ⟨k1, r1, g1⟩ v hv => ?_⟩
  obtain ⟨k, e, q⟩ := g1.lft
  rw [boolD_some e] at hv
  cases hv
  exact ⟨k, rfl, q⟩
theorem dt_cmp (ho : OpR X (compareOp op) r) (hf : OpD X r f) (ha : DE X E a ma) (hb : DE X E b mb) (hm : behindInMarks op b = false) : DT X E (.Compare a [op] [b] pos) (mB (mOp f ma mb)) :=
  pt_imp (pt_cmpR ho ha hb hm) fun σ H Q h => op_bnd hf (mB_tM h)
theorem chain_bnd {σ : L2.St} {H : Hp} {Q : VK} (hf : OpD X r f) (hg : OpD X r' g) (h : tM X.K E (mChain f g ma mb mc) σ H Q) : tChain r r' (tM X.K E ma) (tM X.K E mb) (tM X.K E mc) σ H Q := by
  obtain ⟨en, st, φ, g0⟩ := h
  refine ⟨en, st, φ, g0.bind.imp fun st1 d1 φ1 H1 _ _ ⟨k1, r1, g1⟩ x vx => ⟨en, st1, φ1, g1.bind.imp fun st2 d2 φ2 H2 _ _ ⟨k2, r2, g2⟩ y vy => ?_⟩⟩
  obtain ⟨dz, st', hz, q⟩ := g2.bind.stm
  refine hf H2 φ2 st2 _ x y d1 d2 dz st' r2 (vx.mono k2) vy hz fun z φ3 H3 kx3 rs3 vz => ?_
  obtain ⟨k3, r3, g3⟩ := q φ3 H3 kx3 rs3
  obtain ⟨k, e, k4, r4, g4⟩ := g3.bind.lft
  rw [boolD_some e] at vz
  cases vz
  refine ⟨k, rfl, ?_⟩
  cases k with
  | false =>
    rw [if_neg Bool.false_ne_true] at g4 ⊢
    exact g4.ret _ .bl
  | true =>
    rw [if_pos rfl] at g4 ⊢
    refine ⟨en, st', φ3, g4.bind.imp fun st5 d5 φ5 H5 _ _ ⟨k5, r5, g5⟩ w vw => ?_⟩
    obtain ⟨dw, st6, hw, q6⟩ := g5.stm
    exact hg H5 φ5 st5 Q y w d2 d5 dw st6 r5 ((vy.mono k3).mono k5) vw hw fun v φ' H' kx rs' vd => q6 φ' H' kx rs' v vd
theorem de_chain (ho : OpR X (compareOp op) r) (ho' : OpR X (compareOp op') r') (hf : OpD X r f) (hg : OpD X r' g) (ha : DE X E a ma) (hb : DE X E b mb) (hc : DE X E c mc) (hm : lastMarks [op, op'] [b, c] = false) :
    DE X E (.Compare a [op, op'] [b, c] pos) (mChain f g ma mb mc) := pe_imp (pe_chain ho ho' ha hb hc hm) fun σ H Q h => chain_bnd hf hg h
theorem dt_chain (ho : OpR X (compareOp op) r) (ho' : OpR X (compareOp op') r') (hf : OpD X r f) (hg : OpD X r' g) (ha : DE X E a ma) (hb : DE X E b mb) (hc : DE X E c mc) (hm : lastMarks [op, op'] [b, c] = false) :
    DT X E (.Compare a [op, op'] [b, c] pos) (mB (mChain f g ma mb mc)) := pt_imp (pt_chain ho ho' ha hb hc hm) fun σ H Q h => chain_bnd hf hg (mB_tM h)
theorem truD_ok {H : Hp} {φ : List Addr} {st : Sto} {v : V} {d : D} {k : Bool} (K : PySem.W.Frag) (rs : RS K H φ st) (h : VD K H φ v d) (e : truD d st = some k) : TruV K v H k := by
  cases h with
  | non => cases e; rfl
  | bl => cases e; rfl
  | int => cases e; rfl
  | str => cases e
  | @tup a vs ds h1 h2 =>
    cases e
    refine .inr (.inl ⟨vs, h1, ?_⟩)
    cases h2 <;> rfl
  | @mu l a h1 hm1 =>
    cases e2 : st[l]? with
    | none => unfold truD at e; simp only [e2] at e; cases e
    | some ds =>
      unfold truD at e; simp only [e2] at e; cases e
      obtain ⟨ws, g1, g2⟩ := rs.get l a ds ⟨h1, hm1⟩ e2
      refine .inl ⟨ws, .of g1, ?_⟩
      cases g2 <;> rfl
  | @scr a ns h1 =>
    cases e
    refine .inl ⟨_, h1.sql, ?_⟩
    cases ns <;> rfl
  | ty => cases e
  | cls => cases e
  | cln => cases e
  | exc => cases e
  | exf => cases e
  | tpn => cases e
  | cxd => cases e
  | dic _ _ _ => cases e
  | key _ => cases e
  | mdt _ _ => cases e
  | obj _ _ => cases e
theorem dt_tru (ha : DE X E a ma) (he : ∀ whole, isTrue a X.env whole = (do let v ← whole; standAt a.pos; holding [v] (truthy v))) : DT X E a (mTru ma) :=
  pt_imp (pt_truth ha he) fun σ H Q ⟨en, st, φ, g⟩ => ⟨en, st, φ, g.bind.imp fun st1 d φ1 H1 _ _ ⟨k1, r1, g1⟩ v hv => by
    obtain ⟨k, e, q⟩ := g1.asg
    exact ⟨k, truD_ok X.K r1 hv e, q⟩⟩
theorem dt_not (ha : DT X E a ta) : DT X E (.UnaryOp .Not a pos) (mNot ta) :=
  pt_imp (pt_not ha) fun σ H Q ⟨en, st, φ, g⟩ => ⟨en, st, φ, g.bind.imp fun st1 c φ1 H1 _ _ ⟨k1, r1, g1⟩ => g1.ret⟩
theorem dw_and1 (ha : DT X E a ta) : DW X E (.BoolOp .And [a] pos) ta := pw_and1 ha
theorem dw_or1 (ha : DT X E a ta) : DW X E (.BoolOp .Or [a] pos) ta := pw_or1 ha
theorem dw_and (ha : DT X E a ta) (hb : DW X E (.BoolOp .And (b :: rest) pos) tb) : DW X E (.BoolOp .And (a :: b :: rest) pos) (mAnd ta tb) :=
  pw_imp (pw_and ha hb) fun σ H Q ⟨en, st, φ, g⟩ => ⟨en, st, φ, g.bind.imp fun st1 c φ1 H1 _ _ ⟨k1, r1, g1⟩ => by
    cases c with
    | true => rw [if_pos rfl] at g1 ⊢; exact ⟨en, st1, φ1, g1⟩
    | false => rw [if_neg Bool.false_ne_true] at g1 ⊢; exact g1.ret⟩
theorem dw_or (ha : DT X E a ta) (hb : DW X E (.BoolOp .Or (b :: rest) pos) tb) : DW X E (.BoolOp .Or (a :: b :: rest) pos) (mOr ta tb) :=
  pw_imp (pw_or ha hb) fun σ H Q ⟨en, st, φ, g⟩ => ⟨en, st, φ, g.bind.imp fun st1 c φ1 H1 _ _ ⟨k1, r1, g1⟩ => by
    cases c with
    | true => rw [if_pos rfl] at g1 ⊢; exact g1.ret
    | false => rw [if_neg Bool.false_ne_true] at g1 ⊢; exact ⟨en, st1, φ1, g1⟩⟩
theorem de_one {o : BoolOp} (ha : DE X E a ma) : DE X E (.BoolOp o [a] pos) ma := pe_one ha
theorem de_and (ha : DE X E a ma) (hb : DE X E (.BoolOp .And (b :: rest) pos) mb) : DE X E (.BoolOp .And (a :: b :: rest) pos) (mAndV ma mb) :=
  pe_imp (pe_and ha hb) fun σ H Q ⟨en, st, φ, g⟩ => ⟨en, st, φ, g.bind.imp fun st1 d φ1 H1 _ _ ⟨k1, r1, g1⟩ v hv => by
    obtain ⟨c, e, k2, r2, g2⟩ := g1.bind.lft
    rw [boolD_some e] at hv
    cases hv
    refine ⟨c, rfl, ?_⟩
    cases c with
    | true => rw [if_pos rfl] at g2 ⊢; exact ⟨en, st1, φ1, g2⟩
    | false => rw [if_neg Bool.false_ne_true] at g2 ⊢; exact g2.ret _ .bl⟩
theorem de_or (ha : DE X E a ma) (hb : DE X E (.BoolOp .Or (b :: rest) pos) mb) : DE X E (.BoolOp .Or (a :: b :: rest) pos) (mOrV ma mb) :=
  pe_imp (pe_or ha hb) fun σ H Q ⟨en, st, φ, g⟩ => ⟨en, st, φ, g.bind.imp fun st1 d φ1 H1 _ _ ⟨k1, r1, g1⟩ v hv => by
    obtain ⟨c, e, k2, r2, g2⟩ := g1.bind.lft
    rw [boolD_some e] at hv
    cases hv
    refine ⟨c, rfl, ?_⟩
    cases c with
    | true => rw [if_pos rfl] at g2 ⊢; exact g2.ret _ .bl
    | false => rw [if_neg Bool.false_ne_true] at g2 ⊢; exact ⟨en, st1, φ1, g2⟩⟩
theorem de_not (ha : DE X E a ma) : DE X E (.UnaryOp .Not a pos) (mNotV ma) :=
  pe_imp (pe_not ha) fun σ H Q ⟨en, st, φ, g⟩ => ⟨en, st, φ, g.bind.imp fun st1 d φ1 H1 _ _ ⟨k1, r1, g1⟩ v hv => by
    obtain ⟨c, e, k2, r2, g2⟩ := g1.bind.lft
    rw [boolD_some e] at hv
    cases hv
    exact ⟨c, rfl, g2.ret _ .bl⟩⟩
theorem de_if (hc : DT X E c tc) (ha : DE X E a ma) (hb : DE X E b mb) : DE X E (.IfExp c a b pos) (mIf tc ma mb) :=
  pe_imp (pe_ifExp hc ha hb) fun σ H Q ⟨en, st, φ, g⟩ => ⟨en, st, φ, g.bind.imp fun st1 k φ1 H1 _ _ ⟨k1, r1, g1⟩ => by
    cases k with
    | true => rw [if_pos rfl] at g1 ⊢; exact ⟨en, st1, φ1, g1⟩
    | false => rw [if_neg Bool.false_ne_true] at g1 ⊢; exact ⟨en, st1, φ1, g1⟩⟩
/-- -a of an int -/
def mNeg (m : MM D) : MM D := bnd m fun d => lft (match d with | .int i => some (.int (-i)) | _ => none)
theorem de_neg (ha : DE X E a ma) : DE X E (.UnaryOp .USub a pos) (mNeg ma) :=
  pe_imp (pe_un un_neg ha) fun σ H Q ⟨en, st, φ, g⟩ => ⟨en, st, φ, g.bind.imp fun st1 d φ1 H1 _ _ ⟨k1, r1, g1⟩ v hv => by
    obtain ⟨z, e, q⟩ := g1.lft
    split at e
    · rename_i i _
      cases e; cases hv
      exact ⟨i, rfl, q _ .int⟩
    · cases e⟩
end

/-! ### a tuple, a list, slices -/
section
variable {X : Cx} {E : XK} {pos : Pos} {e : Expr} {es : List Expr} {ms : List (MM D)} {me : MM D}
theorem de_tup {x1 : Nat} (h : DA X E es (mArgs ms)) : DE X E (.Tuple es x1 pos) (mTup ms) :=
  pe_imp (pe_tup h) fun σ H Q ⟨en, st, φ, g⟩ => ⟨en, st, φ, g.bind.imp fun st1 ds φ1 H1 _ _ ⟨k1, r1, g1⟩ vs hv => by
    obtain ⟨z, e, q⟩ := g1.lft'
    split at e
    · rename_i hl
      cases e
      refine ⟨big (by rw [hv.length]; omega), fun p hp => ?_⟩
      obtain ⟨kx, rr⟩ := lay_tup (xs := vs) r1 hp
      exact q φ1 _ kx rr _ (.tup (.of upd_same) (hv.mono kx))
    · cases e⟩
theorem de_lst (h : DA X E es (mArgs ms)) : DE X E (.List es pos) (mLst ms) :=
  pe_imp (pe_lst h) fun σ H Q ⟨en, st, φ, g⟩ => ⟨en, st, φ, g.bind.imp fun st1 ds φ1 H1 _ _ ⟨k1, r1, g1⟩ vs hv => by
    obtain ⟨z, st2, e, q⟩ := g1.stm
    split at e
    · rename_i hl
      cases e
      refine ⟨big (by rw [hv.length]; omega), fun p hp => ?_⟩
      obtain ⟨kx, rr⟩ := lay_lst (xs := vs) r1 hp hv
      exact q _ _ kx rr _ (.mu (by rw [← r1.len, List.getElem?_append_right (Nat.le_refl _)]; simp) ⟨_, upd_same⟩)
    · cases e⟩
def cutD (xs : List D) (lo hi : Option Int) : List D := (xs.drop (HT.sIx xs.length 0 lo)).take (HT.sIx xs.length xs.length hi - HT.sIx xs.length 0 lo)
def partD : D → Option (Option Int)
  | .int i => some (some i)
  | .non => some none
  | _ => none
def mPart : Option (MM D) → MM (Option Int)
  | none => ret none
  | some m => bnd m fun d => lft (match d with | .int i => some (some i) | _ => none)
def tOM (K : PySem.W.Frag) (E : XK) (m : MM (Option Int)) : TO := fun σ H Q => ∃ en st φ, Gat K E m σ en st φ H fun _ o _ H' => Q o H'
abbrev DO (X : Cx) (E : XK) (e : Option Expr) (m : MM (Option Int)) : Prop := PO X e (tOM X.K E m)
theorem po_imp {X : Cx} {e : Option Expr} {t t' : TO} (h : PO X e t) (f : ∀ σ H Q, t' σ H Q → t σ H Q) : PO X e t' := ⟨fun pins s σ H Q I w => h.run pins s σ H Q I (f σ H Q w)⟩
theorem do_none : DO X E none (mPart none) := po_imp po_none fun σ H Q ⟨en, st, φ, g⟩ => g.ret
theorem do_some (h : DE X E e me) : DO X E (some e) (mPart (some me)) :=
  po_imp (po_some h) fun σ H Q ⟨en, st, φ, g⟩ => ⟨en, st, φ, g.bind.imp fun st1 d φ1 H1 _ _ ⟨k1, r1, g1⟩ v hv => by
    obtain ⟨z, e, q⟩ := g1.lft
    split at e
    · rename_i i _
      cases e; cases hv
      exact ⟨i, rfl, q⟩
    · cases e⟩
def fSl (d : D) (lo hi : Option Int) : Sto → Option (D × Sto) := fun st => match d with
  | .tup xs => some (.tup (cutD xs lo hi), st)
  | .mu l => (st[l]?).map fun xs => (.mu st.length, st ++ [cutD xs lo hi])
  | .str z => if z.length ≤ sizeLine then some (.str (cutS z lo hi), st) else none
  | _ => none
def mSl (m : MM D) (lo hi : Option (MM D)) : MM D := bnd m fun d => bnd (mPart lo) fun l => bnd (mPart hi) fun h => stm (fSl d l h)
theorem VDs.cut {K : PySem.W.Frag} {H : Hp} {φ : List Addr} {vs : List V} {ds : List D} (h : VDs K H φ vs ds) (lo hi : Option Int) : VDs K H φ (cutV vs lo hi) (cutD ds lo hi) := by
  unfold cutV cutD
  rw [h.length]
  exact (h.drop _).take _
theorem cutD_all {xs : List D} {lo hi : Option Int} (h : HT.sIx xs.length 0 lo = 0 ∧ HT.sIx xs.length xs.length hi = xs.length) : cutD xs lo hi = xs := by
  unfold cutD
  rw [h.1, h.2]
  simp
theorem de_sl {lo hi : Option Expr} {ml mh : Option (MM D)} {p2 : Pos} (he : DE X E e me) (hl : DO X E lo (mPart ml)) (hh : DO X E hi (mPart mh)) : DE X E (.Subscript e (.Slice lo hi none p2) pos) (mSl me ml mh) :=
  pe_imp (pe_slice ((sl_list.or sl_tupA).or sl_str) he hl hh) fun σ H Q ⟨en, st, φ, g⟩ => ⟨en, st, φ, g.bind.imp fun st1 d φ1 H1 _ _ ⟨k1, r1, g1⟩ v hv => ⟨en, st1, φ1, g1.bind.imp fun st2 l φ2 H2 _ _ ⟨k2, r2, g2⟩ =>
    ⟨en, st2, φ2, g2.bind.imp fun st3 h φ3 H3 _ _ ⟨k3, r3, g3⟩ => by
      obtain ⟨z, st4, e, q⟩ := g3.stm
      have hv3 := (hv.mono k2).mono k3
      unfold fSl at e
      split at e
      · rename_i xs
        cases e
        obtain ⟨a, ws, rfl, h1, h2⟩ := hv3.tupI
        refine .inl (.inr ⟨a, ws, rfl, h1, fun c => ?_, fun _ p hp => ?_⟩)
        · rw [h2.length] at c
          rw [cutD_all c] at q
          exact q φ3 H3 .refl r3 _ (.tup h1 h2)
        · obtain ⟨kx, rr⟩ := lay_tup (xs := cutV ws l h) r3 hp
          exact q φ3 _ kx rr _ (.tup (.of upd_same) ((h2.cut l h).mono kx))
      · rename_i j _ _ _
        cases e2 : st3[j]? with
        | none => rw [e2] at e; cases e
        | some xs =>
          rw [e2] at e; cases e
          obtain ⟨a, rfl, ha⟩ := hv3.mutI
          obtain ⟨ws, g1', g2'⟩ := r3.get j a xs ha e2
          refine .inl (.inl ⟨a, ws, rfl, .of g1', fun p hp => ?_⟩)
          obtain ⟨kx, rr⟩ := lay_lst (xs := cutV ws l h) r3 hp (g2'.cut l h)
          exact q _ _ kx rr _ (.mu (by rw [← r3.len, List.getElem?_append_right (Nat.le_refl _)]; simp) ⟨_, upd_same⟩)
      · split at e
        · rename_i c
          cases e
          cases hv3
          exact .inr ⟨_, rfl, c, q φ3 H3 .refl r3 _ .str⟩
        · cases e
      · cases e⟩⟩⟩
/-- xs[::-1], a list -/
def fRev (d : D) : Sto → Option (D × Sto) := fun st => match d with
  | .mu l => (st[l]?).map fun xs => (.mu st.length, st ++ [xs.reverse])
  | _ => none
def mRev (m : MM D) : MM D := bnd m fun d => stm (fRev d)
theorem de_rev {k : Nat} {p1 p2 p3 : Pos} (he : DE X E e me) : DE X E (.Subscript e (.Slice none none (some (.UnaryOp .USub (.Constant (.int 1) k p1) p2)) p3) pos) (mRev me) :=
  pe_imp (pe_revL he) fun σ H Q ⟨en, st, φ, g⟩ => ⟨en, st, φ, g.bind.imp fun st1 d φ1 H1 _ _ ⟨k1, r1, g1⟩ v hv => by
    obtain ⟨z, st2, e, q⟩ := g1.stm
    unfold fRev at e
    split at e
    · rename_i l _
      cases e2 : st1[l]? with
      | none => rw [e2] at e; cases e
      | some xs =>
        rw [e2] at e; cases e
        obtain ⟨a, rfl, ha⟩ := hv.mutI
        obtain ⟨ws, g1', g2'⟩ := r1.get l a xs ha e2
        refine ⟨a, ws, rfl, .of g1', fun p hp => ?_⟩
        obtain ⟨kx, rr⟩ := lay_lst (xs := ws.reverse) r1 hp g2'.rev
        exact q _ _ kx rr _ (.mu (by rw [← r1.len, List.getElem?_append_right (Nat.le_refl _)]; simp) ⟨_, upd_same⟩)
    · cases e⟩
end
end M2
set_option Elab.async false
set_option linter.all false
set_option maxRecDepth 100000
set_option maxHeartbeats 2000000
namespace M2
open PySem PySem.Spec PyProof.Rows L2
open Classical
variable [Tb]

/-! ### what is walked -/
structure IT where
  items : List D
  loc : Option Nat
  more : List (Nat × List D)
def gOk (it : IT) (st : Sto) : Prop := (∀ l, it.loc = some l → st[l]? = some it.items) ∧ ∀ p ∈ it.more, st[p.1]? = some p.2
def ItR (K : PySem.W.Frag) (it : IT) (J : It) (φ0 : List Addr) (H0 : Hp) : Prop := ∀ φ H st, KX H0 φ0 H φ → RS K H φ st → gOk it st →
  (∀ i, i < it.items.length → J.go i H) ∧ J.stop it.items.length H ∧
  ∀ i x H', i < it.items.length → J.yld i H x H' → ∃ d, it.items[i]? = some d ∧ KX H φ H' φ ∧ RS K H' φ st ∧ VD K H' φ x d
def tIM (K : PySem.W.Frag) (E : XK) (m : MM IT) : TI := fun σ H R => ∃ en st φ, Gat K E m σ en st φ H fun _ it φ' H' => ∀ J, ItR K it J φ' H' → R J H'
abbrev DI (X : Cx) (E : XK) (tg iter : Expr) (m : MM IT) : Prop := PI X tg iter (tIM X.K E m)
def iterD (d : D) (st : Sto) : Option IT := match d with
  | .tup ds => some ⟨ds, none, []⟩
  | .mu l => (st[l]?).map fun ds => ⟨ds, some l, []⟩
  | .scr ns => some ⟨ns.map D.int, none, []⟩
  | _ => none
def mIter (m : MM D) : MM IT := bnd m fun d => asg fun _ st => iterD d st
def mRng1 (m : MM D) : MM IT := bnd m fun d => lft (match d with
  | .int j => if -(2 ^ 62) ≤ j ∧ j < 2 ^ 62 then some ⟨(List.range j.toNat).map fun (i : Nat) => D.int (i : Int), none, []⟩ else none
  | _ => none)
def numbered : Nat → List D → List D
  | _, [] => []
  | i, d :: ds => .tup [.int i, d] :: numbered (i + 1) ds
def mEnum (m : MM D) : MM IT := bnd m fun d => asg fun _ st => match d with
  | .tup ds => some ⟨numbered 0 ds, none, []⟩
  | _ => none
theorem numbered_len : ∀ (i : Nat) (ds : List D), (numbered i ds).length = ds.length
  | _, [] => rfl
  | i, d :: ds => by simp [numbered, numbered_len (i + 1) ds]
theorem numbered_get : ∀ (i j : Nat) (ds : List D), (numbered i ds)[j]? = (ds[j]?).map fun d => D.tup [.int ((i + j : Nat) : Int), d]
  | _, _, [] => by simp [numbered]
  | i, 0, d :: ds => by simp [numbered]
  | i, j + 1, d :: ds => by
    have := numbered_get (i + 1) j ds
    simp only [numbered, List.getElem?_cons_succ]
    rw [this, show i + 1 + j = i + (j + 1) by omega]
section
variable {X : Cx} {E : XK} {tg e : Expr} {es : List Expr} {me : MM D} {pos p : Pos}
theorem itr_tup {K : PySem.W.Frag} {a : Addr} {vs : List V} {ds : List D} {φ0 : List Addr} {H0 : Hp} (h : SqT K H0 a vs) (r : VDs K H0 φ0 vs ds) : ItR K ⟨ds, none, []⟩ (Itt K a) φ0 H0 := fun φ H st kx rs _ => by
  have h' := kx.sqT h
  have r' := r.mono kx
  have hl := r'.length
  refine ⟨fun i hi => ⟨vs, vs[i]'(by show i < vs.length; rw [hl]; exact hi), h', by simp⟩, ⟨vs, h', by show vs.length ≤ ds.length; omega⟩, fun i x H' hi ⟨e1, e2⟩ => ?_⟩
  subst e1
  have e3 := e2 vs h'
  have hi' : i < ds.length := hi
  obtain ⟨v, g1, g2⟩ := r'.get (List.getElem?_eq_getElem hi')
  rw [e3] at g1; cases g1
  exact ⟨_, List.getElem?_eq_getElem hi', .refl, rs, g2⟩
theorem itr_mu {K : PySem.W.Frag} {l : Nat} {a : Addr} {ds : List D} {φ0 : List Addr} {H0 : Hp} (h : MuAt H0 φ0 l a) : ItR K ⟨ds, some l, []⟩ (Itl K a) φ0 H0 := fun φ H st kx rs hg => by
  obtain ⟨vs, g1, r'⟩ := rs.get l a ds (kx.muAt h) (hg.1 l rfl)
  have h' : SqL K H a vs := .of g1
  have hl := r'.length
  refine ⟨fun i hi => ⟨vs, vs[i]'(by show i < vs.length; rw [hl]; exact hi), h', by simp⟩, ⟨vs, h', by show vs.length ≤ ds.length; omega⟩, fun i x H' hi ⟨e1, e2⟩ => ?_⟩
  subst e1
  have e3 := e2 vs h'
  have hi' : i < ds.length := hi
  obtain ⟨v, g1', g2⟩ := r'.get (List.getElem?_eq_getElem hi')
  rw [e3] at g1'; cases g1'
  exact ⟨_, List.getElem?_eq_getElem hi', .refl, rs, g2⟩
theorem itr_scr {K : PySem.W.Frag} {a : Addr} {ns : List Int} {φ0 : List Addr} {H0 : Hp} (h : SqR K H0 a (ns.map V.int)) : ItR K ⟨ns.map D.int, none, []⟩ (Itl K a) φ0 H0 := fun φ H st kx rs _ => by
  have h' : SqL K H a (ns.map V.int) := (kx.sqR h).sql
  refine ⟨fun i hi => ⟨_, (ns.map V.int)[i]'(by simpa using hi), h', by simp⟩, ⟨_, h', by simp⟩, fun i x H' hi ⟨e1, e2⟩ => ?_⟩
  subst e1
  have e3 := e2 _ h'
  have hi' : i < ns.length := by simpa using hi
  rw [List.getElem?_map, List.getElem?_eq_getElem hi'] at e3
  cases e3
  exact ⟨.int ns[i], by show (ns.map D.int)[i]? = _; rw [List.getElem?_map, List.getElem?_eq_getElem hi']; rfl, .refl, rs, .int⟩
theorem itr_rng {K : PySem.W.Frag} {n : Nat} {φ0 : List Addr} {H0 : Hp} : ItR K ⟨(List.range n).map fun (i : Nat) => D.int (i : Int), none, []⟩ (Itr 0 n) φ0 H0 := fun φ H st kx rs _ => by
  refine ⟨fun i hi => by show i < n; simpa using hi, by show n ≤ ((List.range n).map _).length; simp, fun i x H' hi ⟨e1, e2⟩ => ?_⟩
  subst e1 e2
  have hi' : i < n := by simpa using hi
  exact ⟨.int i, by show ((List.range n).map fun (i : Nat) => D.int (i : Int))[i]? = _; rw [List.getElem?_map, List.getElem?_range hi']; rfl, .refl, rs, by rw [Int.zero_add]; exact .int⟩
theorem di_seq (he : DE X E e me) : DI X E tg e (mIter me) := by
  refine ⟨fun pins s σ H R I ⟨en, st, φ, g⟩ => ?_⟩
  obtain ⟨re, rs, r, st', em, q⟩ := g.bind
  cases r with
  | error c => exact (pi_tup he).run pins s σ H R I ⟨en, st, φ, re, rs, .error c, st', em, q⟩
  | ok d =>
    cases hd : iterD d st' with
    | none =>
      refine (pi_tup he).run pins s σ H R I ⟨en, st, φ, re, rs, .ok d, st', em, fun φ' H' kx rs' v hv => ?_⟩
      obtain ⟨_, _, g1⟩ := q φ' H' kx rs'
      obtain ⟨z, e1, _⟩ := g1.asg
      rw [hd] at e1; cases e1
    | some it =>
      cases d with
      | tup ds =>
        refine (pi_tup he).run pins s σ H R I ⟨en, st, φ, re, rs, .ok (.tup ds), st', em, fun φ' H' kx rs' v hv => ?_⟩
        obtain ⟨_, _, g1⟩ := q φ' H' kx rs'
        obtain ⟨z, e1, q1⟩ := g1.asg
        cases e1
        obtain ⟨a, vs, rfl, h1, h2⟩ := hv.tupI
        exact ⟨a, rfl, ⟨vs, h1⟩, q1 _ (itr_tup h1 h2)⟩
      | mu l =>
        refine (pi_list he).run pins s σ H R I ⟨en, st, φ, re, rs, .ok (.mu l), st', em, fun φ' H' kx rs' v hv => ?_⟩
        obtain ⟨_, _, g1⟩ := q φ' H' kx rs'
        obtain ⟨z, e1, q1⟩ := g1.asg
        obtain ⟨a, rfl, ha⟩ := hv.mutI
        cases e2 : st'[l]? with
        | none => unfold iterD at e1; simp only [e2] at e1; cases e1
        | some ds =>
          unfold iterD at e1; simp only [e2] at e1; cases e1
          obtain ⟨vs, g2, _⟩ := rs'.get l a ds ha e2
          exact ⟨a, rfl, ⟨vs, .of g2⟩, q1 _ (itr_mu ha)⟩
      | scr ns =>
        refine (pi_list he).run pins s σ H R I ⟨en, st, φ, re, rs, .ok (.scr ns), st', em, fun φ' H' kx rs' v hv => ?_⟩
        obtain ⟨_, _, g1⟩ := q φ' H' kx rs'
        obtain ⟨z, e1, q1⟩ := g1.asg
        cases e1
        cases hv with
        | scr h1 => exact ⟨_, rfl, ⟨_, h1.sql⟩, q1 _ (itr_scr h1)⟩
      | non => cases hd
      | bl => cases hd
      | int => cases hd
      | str => cases hd
      | ty => cases hd
      | cls => cases hd
      | cln => cases hd
      | exc => cases hd
      | exf => cases hd
      | tpn => cases hd
      | cxd => cases hd
      | dic _ => cases hd
      | key _ => cases hd
      | mdt _ => cases hd
      | obj _ _ => cases hd
theorem pi_imp {t t' : TI} (h : PI X tg e t) (f : ∀ σ H Q, t' σ H Q → t σ H Q) : PI X tg e t' := ⟨fun pins s σ H Q I w => h.run pins s σ H Q I (f σ H Q w)⟩
theorem di_rng1 {a : Expr} (hg : Gl X "range") (hm : X.mg "range" = none) (ha : DA X E [a] (mArgs [me])) (hs : starEach [a] X.env = [(false, eval a X.env)]) : DI X E tg (.Call (.Name "range" p) [a] [] pos) (mRng1 me) :=
  pi_imp (pi_range1 hg hm ha hs) fun σ H R ⟨en, st, φ, g⟩ => by
    refine ⟨en, st, φ, ?_⟩
    obtain ⟨re, rs, r, st', em, q⟩ := g.bind
    refine ⟨re, rs, r.map (fun d => [d]), st', ?_, fun φ' H' kx rs' => ?_⟩
    · show bnd me (fun d => bnd (ret []) fun ds => ret (d :: ds)) en st = _
      unfold bnd
      rw [em]
      cases r <;> rfl
    · have z := q φ' H' kx rs'
      cases r with
      | error c => exact z
      | ok d =>
        intro vs hv
        obtain ⟨v, rfl, h⟩ := hv.one
        obtain ⟨_, _, g1⟩ := z
        obtain ⟨it, e1, q1⟩ := g1.lft
        split at e1
        · rename_i j
          split at e1
          · rename_i c
            cases e1; cases h
            exact ⟨j, rfl, c.1, c.2, q1 _ itr_rng⟩
          · cases e1
        · cases e1
end

/-! ### targets -/
abbrev SetE := D → En → Option En
def tGM (K : PySem.W.Frag) (is : List Nat) (f : SetE) : TG := fun v σ H R => ∃ en φ d en', RE K H φ σ en ∧ VD K H φ v d ∧ f d en = some en' ∧ ∀ σ', RE K H φ σ' en' → (∀ vs, (∀ i ∈ is, i ∈ vs) → wipe σ' vs = wipe σ vs) → R σ' H
def tGsM (K : PySem.W.Frag) (is : List Nat) (f : List D → En → Option En) : TGs := fun ws σ H R => ∃ en φ ds en', RE K H φ σ en ∧ VDs K H φ ws ds ∧ f ds en = some en' ∧ ∀ σ', RE K H φ σ' en' → (∀ vs, (∀ i ∈ is, i ∈ vs) → wipe σ' vs = wipe σ vs) → R σ' H
abbrev DG (X : Cx) (tg : Expr) (is : List Nat) (f : SetE) : Prop := PG X tg (tGM X.K is f)
abbrev DGs (X : Cx) (tgs : List Expr) (is : List Nat) (f : List D → En → Option En) : Prop := PGs X tgs (tGsM X.K is f)
theorem pg_imp {X : Cx} {tg : Expr} {t t' : TG} (h : PG X tg t) (f : ∀ v σ H R, t' v σ H R → t v σ H R) : PG X tg t' := ⟨fun pins s σ H v u Q I r w => h.run pins s σ H v u Q I r (f v σ H Q w)⟩
theorem pgs_imp {X : Cx} {tg : List Expr} {t t' : TGs} (h : PGs X tg t) (f : ∀ v σ H R, t' v σ H R → t v σ H R) : PGs X tg t' := ⟨fun pins s σ H v u Q I r w => h.run pins s σ H v u Q I r (f v σ H Q w)⟩
theorem wipe_get {σ : L2.St} {i : Nat} : ∀ {vs : List Nat}, (wipe σ vs)[i]? = if i ∈ vs then (σ[i]?).map fun _ => none else σ[i]?
  | [] => by simp [wipe]
  | v :: vs => by
    unfold wipe
    by_cases e : v = i
    · subst e
      rw [if_pos List.mem_cons_self]
      by_cases hl : v < σ.length
      · rw [List.getElem?_set_self (by rw [wipe_length]; exact hl), List.getElem?_eq_getElem hl]; rfl
      · rw [List.getElem?_eq_none (by rw [List.length_set, wipe_length]; omega), List.getElem?_eq_none (by omega : σ.length ≤ v)]; rfl
    · rw [List.getElem?_set_ne e, wipe_get (vs := vs)]
      by_cases h : i ∈ vs
      · rw [if_pos h, if_pos (List.mem_cons_of_mem _ h)]
      · rw [if_neg h, if_neg (fun z => (List.mem_cons.mp z).elim (fun q => e q.symm) h)]
theorem wipe_set {σ : L2.St} {i : Nat} {x : Option V} {vs : List Nat} (h : i ∈ vs) : wipe (σ.set i x) vs = wipe σ vs := by
  apply List.ext_getElem?
  intro j
  rw [wipe_get, wipe_get]
  by_cases e : i = j
  · subst e
    rw [if_pos h, if_pos h]
    by_cases hl : i < σ.length
    · rw [List.getElem?_set_self hl, List.getElem?_eq_getElem hl]; rfl
    · rw [List.getElem?_eq_none (by rw [List.length_set]; omega : (σ.set i x).length ≤ i), List.getElem?_eq_none (by omega : σ.length ≤ i)]
  · rw [List.getElem?_set_ne e]
def setN (i : Nat) : SetE := fun d en => if i < en.length then some (en.set i (some d)) else none
def setT (fs : List SetE) : List D → En → Option En := fun ds en => match fs, ds with
  | [], [] => some en
  | f :: fs, d :: ds => (f d en).bind fun en' => setT fs ds en'
  | _, _ => none
def setTup (n : Nat) (fs : List SetE) : SetE := fun d en => match d with
  | .tup ds => if ds.length = n then setT fs ds en else none
  | _ => none
theorem RE.set {K : PySem.W.Frag} {H : Hp} {φ : List Addr} {σ : L2.St} {en : En} {i : Nat} {v : V} {d : D} (re : RE K H φ σ en) (hv : VD K H φ v d) : RE K H φ (σ.set i (some v)) (en.set i (some d)) := by
  refine ⟨by simp [re.len], fun j e h => ?_⟩
  by_cases hj : i = j
  · subst hj
    by_cases hl : i < en.length
    · rw [List.getElem?_set_self hl] at h
      cases h
      exact ⟨v, List.getElem?_set_self (by rw [re.len]; exact hl), hv⟩
    · rw [List.getElem?_eq_none (by simpa using hl)] at h; cases h
  · rw [List.getElem?_set_ne hj] at h
    rw [List.getElem?_set_ne hj]
    exact re.get j e h
section
variable {X : Cx} {pos : Pos}
theorem dg_name {i : Nat} {x : Str} (hN : X.N.Nodup) (hi : X.N[i]? = some x) (hx : Loc X.env.scope x) (hf : X.fn x = true ∨ X.env.scope.names.lookup x = some .local) : DG X (.Name x pos) [i] (setN i) :=
  pg_imp (pg_name hN hi hx hf) fun v σ H R ⟨en, φ, d, en', re, hv, hs, q⟩ => by
    unfold setN at hs
    split at hs
    · cases hs
      exact q _ (re.set hv) fun vs hvs => wipe_set (hvs i List.mem_cons_self)
    · cases hs
theorem dgs_nil : DGs X [] [] (setT []) :=
  pgs_imp pgs_nil fun ws σ H R ⟨en, φ, ds, en', re, hv, hs, q⟩ => by
    cases ds with
    | nil =>
      unfold setT at hs
      cases hs
      exact ⟨hv.nilI, q σ re fun _ _ => rfl⟩
    | cons d ds => unfold setT at hs; cases hs
theorem dgs_cons {e : Expr} {es : List Expr} {is js : List Nat} {f : SetE} {fs : List SetE} (h1 : DG X e is f) (h2 : DGs X es js (setT fs))
    (h : (assignEach (e :: es) X.env).map (·.2) = assign e X.env :: (assignEach es X.env).map (·.2) := by rfl) : DGs X (e :: es) (is ++ js) (setT (f :: fs)) :=
  pgs_imp (pgs_cons h1 h2 h) fun ws σ H R ⟨en, φ, ds, en', re, hv, hs, q⟩ => by
    cases hv with
    | nil => unfold setT at hs; cases hs
    | @cons v vs d ds a b =>
      unfold setT at hs
      cases h3 : f d en with
      | none => rw [h3] at hs; cases hs
      | some en1 =>
        rw [h3] at hs
        refine ⟨v, vs, rfl, en, φ, d, en1, re, a, h3, fun σ1 re1 w1 => ⟨en1, φ, ds, en', re1, b, hs, fun σ2 re2 w2 => q σ2 re2 fun us hus => ?_⟩⟩
        rw [w2 us (fun i hi => hus i (List.mem_append_right _ hi)), w1 us (fun i hi => hus i (List.mem_append_left _ hi))]
theorem dg_tup {es : List Expr} {k : Nat} {is : List Nat} {fs : List SetE} {n : Nat} (hc : X.calm = true) (h : DGs X es is (setT fs)) (hn : (assignEach es X.env).length = n) (hst : (assignEach es X.env).findIdx? (·.1) = none) : DG X (.Tuple es k pos) is (setTup n fs) :=
  pg_imp (pg_tup hc h hn hst) fun v σ H R ⟨en, φ, d, en', re, hv, hs, q⟩ => by
    unfold setTup at hs
    split at hs
    · rename_i ds
      split at hs
      · rename_i hl
        obtain ⟨a, ws, rfl, h1, h2⟩ := hv.tupI
        exact ⟨a, ws, rfl, h1, by rw [h2.length]; exact hl, en, φ, ds, en', re, h2, hs, q⟩
      · cases hs
    · cases hs
end

/-! ### a comprehension -/
def wipeE (en : En) (vs : List Nat) : En := vs.foldr (fun v e => e.set v none) en
noncomputable def cLoop (it : IT) (l0 : Nat) (set : SetE) (test : MM Bool) (elt : MM D) (en : En) : List D → Sto → Option Sto
  | [], st => if gOk it st then some st else none
  | d :: r, st => if gOk it st then
      match set d en with
      | none => none
      | some en1 => match test en1 st with
        | some (.ok true, st1) => match elt en1 st1 with
          | some (.ok v, st2) => match st2[l0]? with
            | some acc => if acc.length < 100000 then cLoop it l0 set test elt en r (st2.set l0 (acc ++ [v])) else none
            | none => none
          | _ => none
        | some (.ok false, st1) => cLoop it l0 set test elt en r st1
        | _ => none
    else none
noncomputable def mLc (mi : MM IT) (vs : List Nat) (set : SetE) (test : MM Bool) (elt : MM D) : MM D := bnd mi fun it => fun en st =>
  (cLoop it st.length set test elt (wipeE en vs) it.items (st ++ [[]])).map fun st' => (.ok (.mu st.length), st')
theorem wipeE_get {en : En} {i : Nat} : ∀ {vs : List Nat} {d : D}, (wipeE en vs)[i]? = some (some d) → en[i]? = some (some d) ∧ i ∉ vs
  | [], d, h => ⟨h, by simp⟩
  | v :: vs, d, h => by
    have h : ((wipeE en vs).set v none)[i]? = some (some d) := h
    by_cases e : v = i
    · subst e
      by_cases hl : v < (wipeE en vs).length
      · rw [List.getElem?_set_self hl] at h; cases h
      · rw [List.getElem?_eq_none (by simpa using hl)] at h; cases h
    · rw [List.getElem?_set_ne e] at h
      obtain ⟨h1, h2⟩ := wipeE_get h
      exact ⟨h1, fun z => (List.mem_cons.mp z).elim (fun q => e q.symm) h2⟩
theorem wipeE_len {en : En} : ∀ (vs : List Nat), (wipeE en vs).length = en.length
  | [] => rfl
  | v :: vs => by
    show ((wipeE en vs).set v none).length = _
    rw [List.length_set, wipeE_len vs]
theorem RE.wipe {K : PySem.W.Frag} {H : Hp} {φ : List Addr} {σ : L2.St} {en : En} (re : RE K H φ σ en) (vs : List Nat) : RE K H φ (wipe σ vs) (wipeE en vs) := by
  refine ⟨by rw [wipe_length, wipeE_len]; exact re.len, fun i d h => ?_⟩
  obtain ⟨h1, h2⟩ := wipeE_get h
  obtain ⟨v, e1, e2⟩ := re.get i d h1
  exact ⟨v, by rw [wipe_get, if_neg h2]; exact e1, e2⟩
abbrev DTs (X : Cx) (E : XK) (es : List Expr) (m : MM Bool) : Prop := PTs X es (tTM X.K E m)
theorem pts_imp {X : Cx} {e : List Expr} {t t' : TT} (h : PTs X e t) (f : ∀ σ H Q, t' σ H Q → t σ H Q) : PTs X e t' := ⟨fun pins s σ H Q I w => h.run pins s σ H Q I (f σ H Q w)⟩
theorem dts_nil {X : Cx} {E : XK} : DTs X E [] (ret true) := pts_imp pts_nil fun σ H Q ⟨en, st, φ, g⟩ => g.ret
theorem dts_one {X : Cx} {E : XK} {c : Expr} {m : MM Bool} (h : DT X E c m) : DTs X E [c] m := pts_one h
theorem lc_bnd {K : PySem.W.Frag} {E : XK} {mi : MM IT} {vs is : List Nat} {set : SetE} {test : MM Bool} {elt : MM D} {σ : L2.St} {H : Hp} {Q : VK} (his : ∀ i ∈ is, i ∈ vs) (h : tM K E (mLc mi vs set test elt) σ H Q) :
    tLc (tIM K E mi) (tGM K is set) (tTM K E0 test) (tM K E0 elt) vs σ H Q := by
  obtain ⟨en, st, φ, g⟩ := h
  refine ⟨en, st, φ, g.bind.imp fun st1 it φ1 H1 _ _ ⟨k1, r1, g1⟩ J hJ Dd hD => ?_⟩
  obtain ⟨re, rs, rr, st', em, q⟩ := g1
  replace em : (cLoop it st1.length set test elt (wipeE en vs) it.items (st1 ++ [[]])).map (fun st' => ((.ok (.mu st1.length) : Except Er D), st')) = some (rr, st') := em
  cases hc : cLoop it st1.length set test elt (wipeE en vs) it.items (st1 ++ [[]]) with
  | none => rw [hc] at em; cases em
  | some stE =>
    rw [hc] at em
    cases em
    obtain ⟨kx0, rs0⟩ := lay_lst (xs := []) (ds := []) rs hD .nil
    have hat0 : (φ1 ++ [Dd])[st1.length]? = some Dd := by rw [← rs.len, List.getElem?_append_right (Nat.le_refl _)]; simp
    refine ⟨fun i m H => m = it.items.length - i ∧ i ≤ it.items.length ∧ ∃ φ2 st2, KX (upd H1 Dd (.lst [])) (φ1 ++ [Dd]) H φ2 ∧ RS K H φ2 st2 ∧ cLoop it st1.length set test elt (wipeE en vs) (it.items.drop i) st2 = some st', ⟨_, rfl, Nat.zero_le _, φ1 ++ [Dd], _, .refl, rs0, hc⟩, ?_⟩
    rintro i m H2 ⟨rfl, hi, φ2, st2, kx2, rs2, hl⟩
    have kx02 := kx0.trans kx2
    by_cases hlt : i < it.items.length
    · rw [List.drop_eq_getElem_cons hlt] at hl
      unfold cLoop at hl
      split at hl
      · rename_i hg
        obtain ⟨j1, j2, j3⟩ := hJ φ2 H2 st2 kx02 rs2 hg
        refine .inr ⟨j1 i hlt, fun H => (i + 1) ≤ it.items.length ∧ ∃ φ2 st2, KX (upd H1 Dd (.lst [])) (φ1 ++ [Dd]) H φ2 ∧ RS K H φ2 st2 ∧ cLoop it st1.length set test elt (wipeE en vs) (it.items.drop (i + 1)) st2 = some st', fun H' ⟨p1, φ', stX, p2, p3, p4⟩ => ⟨_, by omega, rfl, p1, φ', stX, p2, p3, p4⟩, fun x H3 hy => ?_⟩
        obtain ⟨d, e1, kx3, rs3, vx⟩ := j3 i x H3 hlt hy
        rw [List.getElem?_eq_getElem hlt] at e1
        cases e1
        cases hset : set it.items[i] (wipeE en vs) with
        | none => rw [hset] at hl; cases hl
        | some en1 =>
          rw [hset] at hl
          have kx03 := kx02.trans kx3
          refine ⟨wipeE en vs, φ2, it.items[i], en1, (re.mono kx03).wipe vs, vx, hset, fun σ2 re2 w2 => ⟨?_, ?_⟩⟩
          · have z := w2 vs his
            rw [z]
            apply List.ext_getElem?
            intro j
            rw [wipe_get, wipe_get]
            by_cases hj : j ∈ vs
            · rw [if_pos hj, if_pos hj]
              cases σ[j]? <;> rfl
            · rw [if_neg hj, if_neg hj]
          · cases ht : test en1 st2 with
            | none => simp only [ht] at hl; cases hl
            | some p =>
              obtain ⟨rt, st3⟩ := p
              cases rt with
              | error c => simp only [ht] at hl; cases hl
              | ok b =>
                refine ⟨en1, st2, φ2, re2, rs3, .ok b, st3, ht, fun φ4 H4 kx4 rs4 => ?_⟩
                show if b = true then _ else _
                cases b with
                | false =>
                  rw [if_neg Bool.false_ne_true]
                  simp only [ht] at hl
                  exact ⟨hlt, φ4, st3, (kx2.trans kx3).trans kx4, rs4, hl⟩
                | true =>
                  rw [if_pos rfl]
                  simp only [ht] at hl
                  cases he : elt en1 st3 with
                  | none => simp only [he] at hl; cases hl
                  | some p =>
                    obtain ⟨rv, st4⟩ := p
                    cases rv with
                    | error c => simp only [he] at hl; cases hl
                    | ok v =>
                      simp only [he] at hl
                      cases ha : st4[st1.length]? with
                      | none => simp only [ha] at hl; cases hl
                      | some acc =>
                        simp only [ha] at hl
                        split at hl
                        · rename_i hlen
                          refine ⟨en1, st3, φ4, re2.mono kx4, rs4, .ok v, st4, he, fun φ5 H5 kx5 rs5 y vy => ?_⟩
                          have kx25 := (((kx2.trans kx3).trans kx4).trans kx5)
                          have hat : MuAt H5 φ5 st1.length Dd := kx25.muAt ⟨hat0, ⟨_, upd_same⟩⟩
                          obtain ⟨ws, g1, g2⟩ := rs5.get _ _ _ hat ha
                          obtain ⟨kx6, rs6⟩ := put_lst (xs := ws ++ [y]) (ds := acc ++ [v]) rs5 hat (g2.app (.cons vy .nil))
                          exact ⟨ws, g1, Evl.sz_lt (by rw [g2.length]; exact hlen), hlt, φ5, _, kx25.trans kx6, rs6, hl⟩
                        · cases hl
      · cases hl
    · have e : i = it.items.length := by omega
      subst e
      rw [List.drop_length] at hl
      unfold cLoop at hl
      split at hl
      · rename_i hg
        obtain ⟨j1, j2, j3⟩ := hJ φ2 H2 st2 kx02 rs2 hg
        cases hl
        exact .inl ⟨j2, q φ2 H2 kx02 rs2 _ (.mu (kx2.at hat0) (kx2.kl _ ⟨_, upd_same⟩))⟩
      · cases hl
section
variable {X : Cx} {E : XK} {elt tg iter : Expr} {ifs : List Expr} {scope : Scope} {own : List (Str × Nat)} {pos : Pos} {mi : MM IT} {is : List Nat} {set : SetE} {mt : MM Bool} {me : MM D}
theorem de_lc (hc : X.calm = true) (hN : X.N.Nodup) (hi : DI X E tg iter mi) (ok : BlkOk X.N X.env.scope scope own)
    (hg : ∀ (s : Shared) (H : Hp) (C : Addr) (cl : List (Str × Addr)) (fp : List Addr), DG (X.blk s H scope (compEnvC scope cl C X.env) fp) tg is set)
    (ht : ∀ (s : Shared) (H : Hp) (C : Addr) (cl : List (Str × Addr)) (fp : List Addr), DTs (X.blk s H scope (compEnvC scope cl C X.env) fp) E0 ifs mt)
    (he : ∀ (s : Shared) (H : Hp) (C : Addr) (cl : List (Str × Addr)) (fp : List Addr), DE (X.blk s H scope (compEnvC scope cl C X.env) fp) E0 elt me)
    (hs : ∀ x, foldedSetIterable iter X.env x = pure x) (his : ∀ i ∈ is, i ∈ own.map (·.2)) :
    DE X E (.ListComp elt [⟨tg, iter, ifs, 0⟩] scope pos) (mLc mi (own.map (·.2)) set mt me) :=
  pe_imp (pe_lc hc hN hi ok hg ht he hs) fun σ H Q h => lc_bnd his h
end
end M2
set_option Elab.async false
set_option linter.all false
set_option maxRecDepth 100000
set_option maxHeartbeats 2000000
namespace M2
open PySem PySem.Spec PyProof.Rows L2
open Classical
variable [Tb]

inductive Ctl where
  | nx | rt (d : D) | er (c : Er)
abbrev MS := En → Sto → Option (Ctl × En × Sto)
def PC (K : PySem.W.Frag) (E : XK) (D : Ends) (c : Ctl) (en : En) (φ : List Addr) (H : Hp) : Prop := match c with
  | .nx => ∀ σ, RE K H φ σ en → D.nx σ H
  | .rt d => ∀ v, VD K H φ v d → D.rt v H
  | .er c => Fly K E c H
def Sat (K : PySem.W.Frag) (E : XK) (m : MS) (σ : L2.St) (en : En) (st : Sto) (φ : List Addr) (H : Hp) (D : Ends) : Prop :=
  RE K H φ σ en ∧ RS K H φ st ∧ ∃ c en' st', m en st = some (c, en', st') ∧ ∀ φ' H', KX H φ H' φ' → RS K H' φ' st' → PC K E D c en' φ' H'
def tSM (K : PySem.W.Frag) (E : XK) (m : MS) : TS := fun D σ H => ∃ en st φ, Sat K E m σ en st φ H D
abbrev DS1 (X : Cx) (E : XK) (s : Stmt) (m : MS) : Prop := PS X s (tSM X.K E m)
abbrev DSs (X : Cx) (E : XK) (s : List Stmt) (m : MS) : Prop := PSs X s (tSM X.K E m)
/-- an expression's value to a statement's end -/
def sEx {α : Type} (m : MM α) (k : α → MS) : MS := fun en st => match m en st with
  | none => none
  | some (.error c, st1) => some (.er c, en, st1)
  | some (.ok a, st1) => k a en st1
def sNx : MS := fun en st => some (.nx, en, st)
def sSeq (a b : MS) : MS := fun en st => match a en st with
  | some (.nx, en1, st1) => b en1 st1
  | o => o
section
variable {α : Type} {K : PySem.W.Frag} {E : XK} {σ : L2.St} {en : En} {st : Sto} {φ : List Addr} {H : Hp} {D : Ends}
theorem Sat.ex {m : MM α} {k : α → MS} (h : Sat K E (sEx m k) σ en st φ H D) (he : ∀ (c : Er) H', Fly K E c H' → Fly K E c H') : Gat K E m σ en st φ H fun st1 a φ1 H1 => KX H φ H1 φ1 ∧ RS K H1 φ1 st1 ∧ Sat K E (k a) σ en st1 φ1 H1 D := by
  obtain ⟨re, rs, c, en', st', e, q⟩ := h
  refine ⟨re, rs, ?_⟩
  unfold sEx at e
  split at e
  · cases e
  · rename_i c st1 hm
    cases e
    exact ⟨_, _, hm, fun φ' H' kx rs' => q φ' H' kx rs'⟩
  · rename_i a st1 hm
    exact ⟨_, _, hm, fun φ1 H1 kx rs1 => ⟨kx, rs1, re.mono kx, rs1, c, en', st', e, fun φ' H' kx' rs' => q φ' H' (kx.trans kx') rs'⟩⟩
theorem Sat.ex' {m : MM α} {k : α → MS} (h : Sat K E (sEx m k) σ en st φ H D) : Gat K E m σ en st φ H fun st1 a φ1 H1 => KX H φ H1 φ1 ∧ RS K H1 φ1 st1 ∧ Sat K E (k a) σ en st1 φ1 H1 D := h.ex fun _ _ x => x
end
def sAsg (m : MM D) (f : SetE) : MS := sEx m fun d => fun en st => (f d en).map fun en' => (.nx, en', st)
def sExpr (m : MM D) : MS := sEx m fun _ => sNx
def sRet (m : MM D) : MS := sEx m fun d => fun en st => some (.rt d, en, st)
def sIf (c : MM Bool) (a b : MS) : MS := sEx c fun k => if k = true then a else b
noncomputable def sLoop (it : IT) (set : SetE) (body : MS) : List D → MS
  | [] => fun en st => if gOk it st then some (.nx, en, st) else none
  | d :: r => fun en st => if gOk it st then
      match set d en with
      | none => none
      | some en1 => match body en1 st with
        | some (.nx, en2, st2) => sLoop it set body r en2 st2
        | o => o
    else none
noncomputable def sFor (mi : MM IT) (set : SetE) (body : MS) : MS := sEx mi fun it => sLoop it set body it.items
section
variable {X : Cx} {E : XK} {pos : Pos} {e tg iter : Expr} {s : Stmt} {ss : List Stmt} {m m' : MS} {me : MM D} {mt : MM Bool} {mi : MM IT} {f : SetE} {is : List Nat}
theorem dss_nil : DSs X E [] sNx := pss_imp pss_nil fun D σ H ⟨en, st, φ, re, rs, c, en', st', e, q⟩ => by
  cases e
  exact q φ H .refl rs σ re
theorem dss_cons (h1 : DS1 X E s m) (h2 : DSs X E ss m') : DSs X E (s :: ss) (sSeq m m') :=
  pss_imp (pss_cons h1 h2) fun D σ H ⟨en, st, φ, re, rs, c, en', st', e, q⟩ => by
    unfold sSeq at e
    split at e
    · rename_i en1 st1 h
      refine ⟨en, st, φ, re, rs, _, _, _, h, fun φ1 H1 kx rs1 σ1 re1 => ?_⟩
      exact ⟨en1, st1, φ1, re1, rs1, c, en', st', e, fun φ' H' kx' rs' => q φ' H' (kx.trans kx') rs'⟩
    · rename_i o h
      refine ⟨en, st, φ, re, rs, c, en', st', e, fun φ' H' kx rs' => ?_⟩
      have z := q φ' H' kx rs'
      cases c with
      | nx => exact (h _ _ e).elim
      | rt d => exact z
      | er c => exact z
theorem ds_asg (he : DE X E e me) (hg : DG X tg is f) (hs : swapsWithSole [tg] e pos.line X.env = pure false) (hw : swappedStores [tg] e X.env = pure none) (h1 : (assignEach [tg] X.env).map (·.2) = [assign tg X.env]) : DS1 X E (.Assign [tg] e pos) (sAsg me f) :=
  ps_imp (ps_asg he hg hs hw h1) fun D σ H ⟨en, st, φ, g⟩ => ⟨en, st, φ, g.ex'.imp fun st1 d φ1 H1 _ _ ⟨k1, r1, re, rs, c, en', st', e, q⟩ v hv => by
    replace e : (f d en).map (fun en' => (Ctl.nx, en', st1)) = some (c, en', st') := e
    cases hf : f d en with
    | none => rw [hf] at e; cases e
    | some en1 =>
      rw [hf] at e; cases e
      exact ⟨en, φ1, d, _, re, hv, hf, fun σ' re' _ => q φ1 H1 .refl rs σ' re'⟩⟩
theorem set_bnd {K : PySem.W.Frag} {i : Nat} {D : Ends} {σ : L2.St} {H : Hp} (h : tSM K E (sAsg me (setN i)) D σ H) : tM K E me σ H fun v H1 => D.nx (σ.set i (some v)) H1 := by
  obtain ⟨en, st, φ, g⟩ := h
  refine ⟨en, st, φ, g.ex'.imp fun st1 d φ1 H1 _ _ ⟨k1, r1, re, rs, c, en', st', e, q⟩ v hv => ?_⟩
  replace e : (setN i d en).map (fun en' => (Ctl.nx, en', st1)) = some (c, en', st') := e
  cases hf : setN i d en with
  | none => rw [hf] at e; cases e
  | some en1 =>
    rw [hf] at e; cases e
    unfold setN at hf
    split at hf
    · cases hf
      exact q φ1 H1 .refl rs _ (re.set hv)
    · cases hf
theorem ds_set {i : Nat} {x : Str} {pos' : Pos} (hN : X.N.Nodup) (hi : X.N[i]? = some x) (hx : Loc X.env.scope x) (he : DE X E e me) (hs : swapsWith e (some (.Name x pos')) pos.line X.env = pure false) (hf : X.fn x = true ∨ X.env.scope.names.lookup x = some .local) :
    DS1 X E (.Assign [.Name x pos'] e pos) (sAsg me (setN i)) := ps_imp (ps_set hN hi hx he hs hf) fun D σ H h => set_bnd h
theorem ds_setLc {i : Nat} {y : Str} {py spos : Pos} {elt : Expr} {ifs : List Expr} {scope : Scope} {own : List (Str × Nat)} (hc : X.calm = true) (hN : X.N.Nodup) (hy : X.N[i]? = some y) (hyl : X.env.scope.names.lookup y = some .local)
    (hsw : swapsWith (.ListComp elt [⟨tg, iter, ifs, 0⟩] scope pos) (some (.Name y py)) spos.line X.env = pure true) (hi : DI X E tg iter mi) (ok : BlkOk X.N X.env.scope scope own)
    (hg : ∀ (s : Shared) (H : Hp) (C : Addr) (cl : List (Str × Addr)) (fp : List Addr), DG (X.blk s H scope (compEnvC scope cl C X.env) fp) tg is f)
    (ht : ∀ (s : Shared) (H : Hp) (C : Addr) (cl : List (Str × Addr)) (fp : List Addr), DTs (X.blk s H scope (compEnvC scope cl C X.env) fp) E0 ifs mt)
    (he : ∀ (s : Shared) (H : Hp) (C : Addr) (cl : List (Str × Addr)) (fp : List Addr), DE (X.blk s H scope (compEnvC scope cl C X.env) fp) E0 elt me)
    (hs : ∀ x, foldedSetIterable iter X.env x = pure x) (his : ∀ i ∈ is, i ∈ own.map (·.2)) :
    DS1 X E (.Assign [.Name y py] (.ListComp elt [⟨tg, iter, ifs, 0⟩] scope pos) spos) (sAsg (mLc mi (own.map (·.2)) f mt me) (setN i)) :=
  ps_imp (ps_setLc hc hN hy hyl hsw hi ok hg ht he hs) fun D σ H h => lc_bnd his (set_bnd h)
theorem ds_expr (he : DE X E e me) (hs : swapsWith e none pos.line X.env = pure false) : DS1 X E (.Expr e pos) (sExpr me) :=
  ps_imp (ps_expr he hs) fun D σ H ⟨en, st, φ, g⟩ => ⟨en, st, φ, g.ex'.imp fun st1 d φ1 H1 _ _ ⟨k1, r1, re, rs, c, en', st', e, q⟩ v hv => by
    cases e
    exact q φ1 H1 .refl rs σ re⟩
theorem ds_ret (he : DE X E e me) : DS1 X E (.Return (some e) pos) (sRet me) :=
  ps_imp (ps_ret he) fun D σ H ⟨en, st, φ, g⟩ => ⟨en, st, φ, g.ex'.imp fun st1 d φ1 H1 _ _ ⟨k1, r1, re, rs, c, en', st', e, q⟩ v hv => by
    cases e
    exact q φ1 H1 .refl rs v hv⟩
theorem ds_retN : DS1 X E (.Return none pos) (sRet (ret .non)) :=
  ps_imp ps_retN fun D σ H ⟨en, st, φ, g⟩ => by
    obtain ⟨re, rs, c, en', st', e, q⟩ := g
    cases e
    exact q φ H .refl rs _ .non
theorem ds_if {c : Expr} {a b : List Stmt} (hc : DT X E c mt) (ha : DSs X E a m) (hb : DSs X E b m') : DS1 X E (.If c a b pos) (sIf mt m m') :=
  ps_imp (ps_if hc ha hb) fun D σ H ⟨en, st, φ, g⟩ => ⟨en, st, φ, g.ex'.imp fun st1 k φ1 H1 _ _ ⟨k1, r1, g1⟩ => by
    cases k with
    | true => rw [if_pos rfl] at g1 ⊢; exact ⟨en, st1, φ1, g1⟩
    | false => rw [if_neg Bool.false_ne_true] at g1 ⊢; exact ⟨en, st1, φ1, g1⟩⟩
theorem ds_for {body : List Stmt} (hp : PassesOwn (model X.prog X.w) X.A X.env X.xe) (hc : X.calm = true) (hi : DI X E tg iter mi) (hg : DG X tg is f) (hb : DSs X E body m) (hs : ∀ x, foldedSetIterable iter X.env x = pure x) :
    DS1 X E (.For tg iter body [] pos) (sFor mi f m) :=
  ps_imp (ps_for hp hc hi hg hb hs) fun D σ H ⟨en, st, φ, g⟩ => ⟨en, st, φ, g.ex'.imp fun st1 it φ1 H1 _ _ ⟨k1, r1, re, rs, c, en', st', hl, q⟩ J hJ => by
    refine ⟨fun i m0 σ H2 => m0 = it.items.length - i ∧ i ≤ it.items.length ∧ ∃ en2 st2 φ2, RE X.K H2 φ2 σ en2 ∧ RS X.K H2 φ2 st2 ∧ KX H1 φ1 H2 φ2 ∧ sLoop it f m (it.items.drop i) en2 st2 = some (c, en', st'), ⟨_, rfl, Nat.zero_le _, en, st1, φ1, re, rs, .refl, hl⟩, ?_⟩
    rintro i m0 σ2 H2 ⟨rfl, hi, en2, st2, φ2, re2, rs2, kx2, hl⟩
    by_cases hlt : i < it.items.length
    · rw [List.drop_eq_getElem_cons hlt] at hl
      unfold sLoop at hl
      split at hl
      · rename_i hg
        obtain ⟨j1, j2, j3⟩ := hJ φ2 H2 st2 kx2 rs2 hg
        refine .inr ⟨j1 i hlt, fun σ H3 => (i + 1) ≤ it.items.length ∧ ∃ en2 st2 φ2, RE X.K H3 φ2 σ en2 ∧ RS X.K H3 φ2 st2 ∧ KX H1 φ1 H3 φ2 ∧ sLoop it f m (it.items.drop (i + 1)) en2 st2 = some (c, en', st'), fun σ' H' ⟨p1, p⟩ => ⟨_, by omega, rfl, p1, p⟩, fun x H3 hy => ?_⟩
        obtain ⟨d, e1, kx3, rs3, vx⟩ := j3 i x H3 hlt hy
        rw [List.getElem?_eq_getElem hlt] at e1
        cases e1
        cases hset : f it.items[i] en2 with
        | none => simp only [hset] at hl; cases hl
        | some en3 =>
          simp only [hset] at hl
          refine ⟨en2, φ2, it.items[i], en3, re2.mono kx3, vx, hset, fun σ3 re3 _ => ?_⟩
          cases hb : m en3 st2 with
          | none => simp only [hb] at hl; cases hl
          | some p =>
            obtain ⟨c2, en4, st4⟩ := p
            refine ⟨en3, st2, φ2, re3, rs3, c2, en4, st4, hb, fun φ5 H5 kx5 rs5 => ?_⟩
            have kxa := (kx2.trans kx3).trans kx5
            cases c2 with
            | nx =>
              simp only [hb] at hl
              intro σ5 re5
              exact ⟨hlt, en4, st4, φ5, re5, rs5, kxa, hl⟩
            | rt d =>
              simp only [hb] at hl
              cases hl
              exact q φ5 H5 kxa rs5
            | er d =>
              simp only [hb] at hl
              cases hl
              exact q φ5 H5 kxa rs5
      · cases hl
    · have e : i = it.items.length := by omega
      subst e
      rw [List.drop_length] at hl
      unfold sLoop at hl
      split at hl
      · rename_i hg
        obtain ⟨j1, j2, j3⟩ := hJ φ2 H2 st2 kx2 rs2 hg
        cases hl
        exact .inl ⟨j2, q φ2 H2 kx2 rs2 σ2 re2⟩
      · cases hl⟩
/-- code that is not come to -/
def sNever : MS := fun _ _ => none
theorem dss_never : DSs X E ss sNever := pss_imp pss_never fun D σ H ⟨en, st, φ, re, rs, c, en', st', e, q⟩ => by cases e
theorem ds_pass : DS1 X E (.Pass pos) sNx := ps_imp ps_pass fun D σ H ⟨en, st, φ, re, rs, c, en', st', e, q⟩ => by
  cases e
  exact q φ H .refl rs σ re
/-- a[i] = v, a list -/
def sPut (mv ma mi : MM D) : MS := sEx mv fun v => sEx ma fun a => sEx mi fun i => fun en st => match a, i with
  | .mu l, .int k => (st[l]?).bind fun ds => (ixN ds.length k).map fun j => (.nx, en, st.set l (ds.set j v))
  | _, _ => none
theorem ds_put {o i : Expr} {mo mi : MM D} {ipos : Pos} (he : DE X E e me) (ho : DE X E o mo) (hi : DE X E i mi)
    (hg : ∀ {to ti : TE}, PE X o to → PE X i ti → PG X (.Subscript o i ipos) (gSub to ti rSetL))
    (hs : swapsWithSole [.Subscript o i ipos] e pos.line X.env = pure false) (hw : swappedStores [.Subscript o i ipos] e X.env = pure none) (h1 : (assignEach [.Subscript o i ipos] X.env).map (·.2) = [assign (.Subscript o i ipos) X.env]) :
    DS1 X E (.Assign [.Subscript o i ipos] e pos) (sPut me mo mi) :=
  ps_imp (ps_asg he (hg ho hi) hs hw h1) fun D σ H ⟨en, st, φ, g⟩ => ⟨en, st, φ, g.ex'.imp fun st1 dv φ1 H1 _ _ ⟨k1, r1, g1⟩ v hv =>
    ⟨en, st1, φ1, g1.ex'.imp fun st2 da φ2 H2 _ _ ⟨k2, r2, g2⟩ a ha => ⟨en, st2, φ2, g2.ex'.imp fun st3 di φ3 H3 _ _ ⟨k3, r3, re, rs, c, en', st', e, q⟩ i hi => by
      cases da with
      | mu l =>
        cases di with
        | int k =>
          cases e2 : st3[l]? with
          | none => simp only [e2] at e; cases e
          | some ds =>
            simp only [e2] at e
            replace e : (ixN ds.length k).map (fun j => (Ctl.nx, en, st3.set l (ds.set j dv))) = some (c, en', st') := e
            cases e3 : ixN ds.length k with
            | none => rw [e3] at e; cases e
            | some j =>
              rw [e3] at e; cases e
              obtain ⟨p, rfl, hp⟩ := (ha.mono k3).mutI
              cases hi
              obtain ⟨ws, g3, g4⟩ := r3.get l p ds hp e2
              refine ⟨p, ws, k, j, rfl, rfl, g3, by rw [g4.length]; exact e3, ?_⟩
              obtain ⟨kx, rr⟩ := put_lst (xs := ws.set j v) (ds := ds.set j dv) r3 hp (g4.set ((hv.mono k2).mono k3) j)
              exact q φ3 _ kx rr σ (re.mono kx)
        | _ => cases e
      | _ => cases e⟩⟩⟩
/-- l.append(v) -/
def locD : D → Option Nat
  | .mu l => some l
  | _ => none
def mApp (ml mv : MM D) : MM D := bnd ml fun d => bnd (lft (locD d)) fun l => bnd (mArgs [mv]) fun vs => stm fun st => match vs with
  | [v] => (st[l]?).bind fun ds => if ds.length < 100000 then some (.non, st.set l (ds ++ [v])) else none
  | _ => none
theorem locD_some {d : D} {l : Nat} (h : locD d = some l) : d = .mu l := by
  cases d <;> first | (cases h; rfl) | cases h
theorem de_app {o : Expr} {mo mv : MM D} {apos cpos : Pos} (ho : DE X E o mo) (ha : DA X E [e] (mArgs [mv]))
    (hpe : ∀ {to : TE} {t : TA}, PE X o to → PA X [e] t → PE X (.Call (.Attribute o "append" apos) [e] [] cpos) (tBM X.K "list" rAppend to t)) :
    DE X E (.Call (.Attribute o "append" apos) [e] [] cpos) (mApp mo mv) :=
  pe_imp (hpe ho ha) fun σ H Q ⟨en, st, φ, g⟩ => ⟨en, st, φ, g.bind.imp fun st1 dl φ1 H1 _ _ ⟨k1, r1, g1⟩ x hx => by
    obtain ⟨l, el, _, _, g2⟩ := g1.bind.lft
    rw [locD_some el] at hx
    obtain ⟨p, rfl, hp⟩ := hx.mutI
    have hl : l < st1.length := by rw [← r1.len]; exact (List.getElem?_eq_some_iff.mp hp.at').1
    obtain ⟨ws, gw, _⟩ := r1.get l p st1[l] hp (List.getElem?_eq_getElem hl)
    refine ⟨.inl ⟨rfl, ws, .of gw⟩, en, st1, φ1, g2.bind.imp fun st3 vs φ3 H3 _ _ g4 us hu => ?_⟩
    obtain ⟨k3, r3, g5⟩ := g4
    obtain ⟨z, st4, e4, q4⟩ := g5.stm
    cases vs with
    | nil => cases e4
    | cons dv rest =>
      cases rest with
      | cons _ _ => cases e4
      | nil =>
        cases e5 : st3[l]? with
        | none => simp only [e5] at e4; cases e4
        | some ds =>
          simp only [e5] at e4
          replace e4 : (if ds.length < 100000 then some (D.non, st3.set l (ds ++ [dv])) else none) = some (z, st4) := e4
          by_cases hlen : ds.length < 100000
          · rw [if_pos hlen] at e4
            cases e4
            obtain ⟨w, rfl, hw⟩ := hu.one
            obtain ⟨xs, g6, g7⟩ := r3.get l p ds (k3.muAt hp) e5
            refine ⟨p, xs, w, rfl, rfl, g6, Evl.sz_lt (by rw [g7.length]; exact hlen), ?_⟩
            obtain ⟨kx, rr⟩ := put_lst (xs := xs ++ [w]) (ds := ds ++ [dv]) r3 (k3.muAt hp) (g7.app (.cons hw .nil))
            exact q4 φ3 _ kx rr _ .non
          · rw [if_neg hlen] at e4
            cases e4⟩
end
end M2
set_option Elab.async false
set_option linter.all false
set_option maxRecDepth 100000
set_option maxHeartbeats 2000000
namespace M2
open PySem PySem.Spec PyProof.Rows L2
open Classical
variable [Tb]

/-! ### a def by its body's mirror -/
def envOf (n : Nat) (ds : List D) : En := ds.map some ++ List.replicate (n - ds.length) none
def runF (n : Nat) (m : MS) : FD := fun ds st => match m (envOf n ds) st with
  | some (.nx, _, st') => some (.ok .non, st')
  | some (.rt d, _, st') => some (.ok d, st')
  | some (.er c, _, st') => some (.error c, st')
  | none => none
theorem re_start {K : PySem.W.Frag} {H : Hp} {φ : List Addr} {N : List Str} {vs : List V} {ds : List D} (h : VDs K H φ vs ds) : RE K H φ (L2.start N vs) (envOf N.length ds) := by
  unfold L2.start envOf
  rw [h.length]
  refine ⟨by simp [h.length], fun i d e => ?_⟩
  by_cases hi : i < ds.length
  · rw [List.getElem?_append_left (by simpa using hi), List.getElem?_map, List.getElem?_eq_getElem hi] at e
    replace e : ds[i] = d := by simpa using e
    obtain ⟨v, e1, e2⟩ := h.get (i := i) (d := d) (by rw [List.getElem?_eq_getElem hi, e])
    refine ⟨v, ?_, e2⟩
    rw [List.getElem?_append_left (by simp [h.length]; exact hi), List.getElem?_map, e1]; rfl
  · rw [List.getElem?_append_right (by simpa using hi)] at e
    have := List.mem_of_getElem? e
    simp at this
section
variable {P : Program} {w : World} {K : PySem.W.Frag} {mg : Str → Option Value} {base : Heap}
theorem fng_dfC {x q : Str} {st : Stmt} {f : Addr} {fd : FuncData} {N ps : List Str} {k : Nat} {m : MS} (F : Fun K x q st f fd) (S : FnScope N ps (defScope st))
    (body : ∀ (cd : Value) (A : Around) (ou : List Env) (s : Shared) (H : Hp) (E : XK), fd.code = cd → A.guards = some [] → Room k (A.deeper (envOfC q (defScope st) s.heap.objs.size f cd)) →
      DSs (cxOf (L2.CX P w) P w K mg base N q (defScope st) f cd A ou s H E) E (defBody st) m) :
    FnG P w K mg base (L2.CX P w) (k + 1) f fd ps (spF K ps.length (runF N.length m)) := by
  refine fng_ofC F S (fun vs H Q E h => ?_) fun cd A ou s H vs Q E hcd hg hr h => ⟨_, body cd A ou s H E hcd hg hr, ?_⟩
  · obtain ⟨ds, st, φ, r, st', hv, _, hn, _⟩ := h
    rw [hv.length, hn]
  · obtain ⟨ds, st, φ, r, st', hv, rs, hn, e, q⟩ := h
    unfold runF at e
    cases hm : m (envOf N.length ds) st with
    | none => rw [hm] at e; cases e
    | some p =>
      obtain ⟨c, en', st2⟩ := p
      rw [hm] at e
      refine ⟨_, st, φ, re_start hv, rs, c, en', st2, hm, fun φ' H' kx rs' => ?_⟩
      cases c with
      | nx => cases e; exact fun σ _ => q φ' H' kx rs' _ .non
      | rt d => cases e; exact fun v vd => q φ' H' kx rs' v vd
      | er c => cases e; exact q φ' H' kx rs'
theorem fng_df {x q : Str} {st : Stmt} {f : Addr} {fd : FuncData} {N ps : List Str} {k : Nat} {m : MS} (F : Fun K x q st f fd) (S : FnScope N ps (defScope st))
    (body : ∀ (cd : Value) (A : Around) (ou : List Env) (s : Shared) (H : Hp) (E : XK), A.guards = some [] → Room k (A.deeper (envOfC q (defScope st) s.heap.objs.size f cd)) →
      DSs (cxOf (L2.CX P w) P w K mg base N q (defScope st) f cd A ou s H E) E (defBody st) m) :
    FnG P w K mg base (L2.CX P w) (k + 1) f fd ps (spF K ps.length (runF N.length m)) := fng_dfC F S fun cd A ou s H E _ => body cd A ou s H E
theorem df_of {x q : Str} {st : Stmt} {f : Addr} {fd : FuncData} {N ps : List Str} {k : Nat} {m : MS} (F : Fun K x q st f fd) (S : FnScope N ps (defScope st)) (hm : mg x = some (.ref f)) (hb : Binds K fd ps [])
    (body : ∀ (cd : Value) (A : Around) (ou : List Env) (s : Shared) (H : Hp) (E : XK), A.guards = some [] → Room k (A.deeper (envOfC q (defScope st) s.heap.objs.size f cd)) →
      DSs (cxOf (L2.CX P w) P w K mg base N q (defScope st) f cd A ou s H E) E (defBody st) m) :
    Df P w K mg base x (k + 1) ps.length (runF N.length m) :=
  ⟨f, fd, ps, hm, F.kp, hb, fng_df F S body⟩
end
theorem passC {P : Program} {w : World} {K : PySem.W.Frag} {mg : Str → Option Value} {base : Heap} {N : List Str} {q : Str} {sc : Scope} {f : Addr} {cd : Value} {A : Around} {ou : List Env} {s : Shared} {H : Hp} {E : XK} :
    Passes (L2.CX P w) (cxOf (L2.CX P w) P w K mg base N q sc f cd A ou s H E) E :=
  passes_call (takes_of rfl rfl rfl rfl) fun _ _ _ _ h => h
theorem ownC {P : Program} {w : World} {K : PySem.W.Frag} {mg : Str → Option Value} {base : Heap} {N : List Str} {q : Str} {sc : Scope} {f : Addr} {cd : Value} {A : Around} {ou : List Env} {s : Shared} {H : Hp} {E : XK} :
    PassesOwn (model P w) (A.deeper (envOfC q sc s.heap.objs.size f cd)) (envOfC q sc s.heap.objs.size f cd) (cxOf (L2.CX P w) P w K mg base N q sc f cd A ou s H E).xe :=
  passes_of (X := cxOf (L2.CX P w) P w K mg base N q sc f cd A ou s H E) rfl

/-! ### raise -/
def sRaise (n : Str) : MS := fun en st => some (.er ⟨n, []⟩, en, st)
theorem ds_raise {X : Cx} {E : XK} {x m : Str} {j : Nat} {p p2 pos pos2 : Pos} (hc : X.calm = true) (tk : Takes X fun cls d _ H => E cls d H)
    (hmk : PMk X (.Call (.Name x p) [.Constant (.str m) j p2] [] pos) (fun _ H Q => Q (.ref (clsA X.K x)) none H)) :
    DS1 X E (.Raise (some (.Call (.Name x p) [.Constant (.str m) j p2] [] pos)) none pos2) (sRaise x) :=
  ps_imp (ps_raise hc tk hmk) fun D σ H ⟨en, st, φ, re, rs, c, en', st', e, q⟩ => by
    cases e
    exact q φ H .refl rs

/-! ### the law's end -/
section
variable {P : Program} {w : World} {K : PySem.W.Frag} {mg mb : Str → Option Value} {k : Nat} {fa a : Addr} {fd : FuncData} {x : Str} {sp : Sp} {s1 : Shared} {us : List Value} {ns : List Int}
def LawEnd (s1 : Shared) : Result → Shared → Prop := fun r s2 => r = .ok (.ret (.bool true)) ∧ OldK s1.heap s2.heap ∧ s2.os = s1.os ∧ AllBare s2.gens
/-- from an abstract heap that tracks the script at most -/
theorem law_from (inK : K.In s1.heap) (nm : s1.heap.Ns mainGlobals mg) (nb : s1.heap.Ns builtinsNs mb) (eb : ∀ y : Str, y ≠ "__name__" → mb y = bootBuiltins y) (nl : s1.heap.NoLimit) (ng : s1.gens = #[])
    (at_a : s1.heap.get? a = some { cls := .type "list", data := .seq us.toArray }) (room : Room k callerA)
    (F : ∀ bs : Heap, K.In bs → bs.Ns mainGlobals mg → FnG P w K mg bs (L2.CX P w) k fa fd [x] sp) (bnds : ∀ (s : Shared) (u : Value), BindsTo s fd ⟨[u], []⟩ [(x, u)])
    (H : Hp) (only : Only H) (ok : HOk P w H s1.heap) (atH : ∀ b, H b ≠ none → b = a) (offK : H a ≠ none → K.lookup a = none) (want : sp [.ref a] H (fun v _ => v = .bl true) fun _ _ _ => False) :
    codeAny (model P w) callerA (.call (.ref fa) ⟨[.ref a], []⟩) (LawEnd s1) s1 := by
  have hid : ∀ {b : Addr} {o : Obj}, s1.heap.get? b = some o → b ≠ a → (hidT s1.heap H).get? b = some o := fun {b o} e n => hidT_get e (by
    cases z : H b with
    | none => rfl
    | some u => exact absurd (atH b (by rw [z]; exact fun q => nomatch q)) n)
  have names : ∀ {b : Addr} {m : Str → Option Value}, s1.heap.Ns b m → (hidT s1.heap H).Ns b m := by
    rintro b m ⟨o, es, ep, e, d, r⟩
    refine ⟨o, es, ep, hid e (fun z => ?_), d, r⟩
    rw [z, at_a] at e
    cases e
    exact Data.noConfusion d
  have kin : K.In (hidT s1.heap H) := fun b o e => by
    by_cases z : b = a
    · subst z
      refine hidT_get (inK b o e) ?_
      cases y : H b with
      | none => rfl
      | some u =>
        have := offK (by rw [y]; exact fun q => nomatch q)
        rw [this] at e; cases e
    · exact hid (inK b o e) z
  have md : Mod K mg (hidT s1.heap H) := by
    obtain ⟨mc, l1, l2⟩ := nl
    exact ⟨kin, names nm, ⟨mb, names nb, eb⟩, mc, names l1, l2⟩
  have en0 : Env0 P w K mg (hidT s1.heap H) callerA [] s1 H :=
    { frames := rfl, mod := md, bs := fun b o e => of_hidT e, bsz := Nat.le_of_eq (hidT_size _ _), funs := trivial, frf := fun b z => absurd (show b ∈ ([] : List Addr) from z) (by simp), hok := ok, bare := .of_eq ng }
  refine codeAny_mono ((F _ kin (names nm)).run callerA [] s1 H ⟨[.ref a], []⟩ [.ref a] [.ref a] _ _ rfl room en0 (bnds s1 (.ref a)) (.cons rfl .nil) want) fun r s2 z => ?_
  match r, z with
  | .error e, ⟨_, _, _, _, _, _, _, _, _, _, _, _, no⟩ => exact no.elim
  | .ok (.ret u), ⟨v, H2, os2, bare2, un2, ok2, rel, isT⟩ =>
    subst isT
    cases rel
    refine ⟨rfl, OldK.of_keep fun b o e => ?_, os2, bare2⟩
    rcases only b with z | ⟨ob, xs, z⟩
    · exact un2.keep b o e z (fun y => absurd (show b ∈ ([] : List Addr) from y) (by simp)) (by simp)
    · have e1 := (ok b _ z).1
      have e2 := (ok2 b _ (un2.frzs b ob _ z)).1
      rw [e] at e1
      rw [e2, ← e1]
theorem law_G (inK : K.In s1.heap) (nm : s1.heap.Ns mainGlobals mg) (nb : s1.heap.Ns builtinsNs mb) (eb : ∀ y : Str, y ≠ "__name__" → mb y = bootBuiltins y) (nl : s1.heap.NoLimit) (ng : s1.gens = #[])
    (at_a : s1.heap.get? a = some { cls := .type "list", data := .seq us.toArray }) (are : IntsAre us ns) (few : ns.length ≤ sizeLine) (room : Room k callerA)
    (F : ∀ bs : Heap, K.In bs → bs.Ns mainGlobals mg → FnG P w K mg bs (L2.CX P w) k fa fd [x] sp) (bnds : ∀ (s : Shared) (u : Value), BindsTo s fd ⟨[u], []⟩ [(x, u)])
    (want : ∀ H : Hp, Only H → SqR K H a (ns.map V.int) → sp [.ref a] H (fun v _ => v = .bl true) fun _ _ _ => False) :
    codeAny (model P w) callerA (.call (.ref fa) ⟨[.ref a], []⟩) (LawEnd s1) s1 := by
  have rel := vals_ints are
  cases z : K.lookup a with
  | some o =>
    have e := inK a o z
    rw [at_a] at e
    cases e
    exact law_from inK nm nb eb nl ng at_a room F bnds (fun _ => none) (fun _ => .inl rfl) (fun _ _ y => nomatch y) (fun _ y => absurd rfl y) (fun y => absurd rfl y)
      (want _ (fun _ => .inl rfl) (.inr ⟨_, us.toArray, _, z, rfl, rfl, rfl, by rw [List.size_toArray, are.length]; exact few, by simpa using rel⟩))
  | none =>
    have at1 : ∀ b u, (if b = a then some (HO.frz { cls := .type "list", data := .seq us.toArray } (.lst (ns.map V.int))) else none) = some u → b = a ∧ u = HO.frz { cls := .type "list", data := .seq us.toArray } (.lst (ns.map V.int)) := fun b u y => by
      split at y
      · rename_i h
        cases y
        exact ⟨h, rfl⟩
      · cases y
    have only : Only fun b => if b = a then some (HO.frz { cls := .type "list", data := .seq us.toArray } (.lst (ns.map V.int))) else none := fun b => by
      by_cases h : b = a
      · exact .inr ⟨_, _, if_pos h⟩
      · exact .inl (if_neg h)
    refine law_from inK nm nb eb nl ng at_a room F bnds _ only (fun b u y => ?_) (fun b y => ?_) (fun _ => z) (want _ only (.inl ⟨_, if_pos rfl⟩))
    · obtain ⟨rfl, rfl⟩ := at1 b u y
      exact ⟨at_a, by rw [List.length_map]; exact few, us, _, rel, at_a⟩
    · cases h : (if b = a then some (HO.frz { cls := .type "list", data := .seq us.toArray } (.lst (ns.map V.int))) else none) with
      | none => exact absurd h y
      | some u => exact (at1 b u h).1
end
theorem walk_G {l : PySem.W.OpenLaw} {n k : Nat} {q : Program} {loose : List Str} {XP : (Str → Option Value) → Heap → Prop} {YP : World → Heap → Prop} {d : DefRec} {K : Params → PySem.W.Frag} {sp : World → Sp} {x : Str}
    (hn : l.most = some n) (n2 : n ≤ sizeLine) (noD : d.params.defaults = []) (room : Room k callerA) (hY : ∀ (w : World) (h : Heap), YP w h → (K w.params).In h)
    (F : ∀ (w : World) (mg : Str → Option Value) (fa : Addr) (h : Heap), (K w.params).In h → h.Ns mainGlobals mg → mg d.name = some (.ref fa) →
      ∃ fd : FuncData, (∀ (s : Shared) (u : Value), BindsTo s fd ⟨[u], []⟩ [(x, u)]) ∧ ∀ bs : Heap, (K w.params).In bs → bs.Ns mainGlobals mg → FnG l.prog w (K w.params) mg bs (L2.CX l.prog w) k fa fd [x] (sp w))
    (want : ∀ (w : World) (H : Hp) (a : Addr) (ns : List Int), ns.length ≤ n → Only H → SqR (K w.params) H a (ns.map V.int) → sp w [.ref a] H (fun v _ => v = .bl true) fun _ _ _ => False) :
    PySem.W.WalkO q loose XP YP l.row.toRowW d [] (fun f vs => PySem.call f vs) := by
  refine Att.attach_call hn noD fun w s0 s1 mg mb fa o pm cd doc a us ns G Y ho hd hcd hmg hobj are few hg => ?_
  obtain ⟨fd, bnds, hF⟩ := F w mg fa _ (hY w _ Y) G.T.g hmg
  exact law_G (hY w _ Y) G.T.g G.T.b G.T.builtins G.T.nolimit hg hobj are (Nat.le_trans few n2) room hF bnds fun H hO hS => want w H a ns few hO hS
end M2
set_option Elab.async false
set_option linter.all false
set_option maxRecDepth 100000
set_option maxHeartbeats 2000000
namespace PySem
open PySem.Calls
/-! max(xs, default=d) and min(xs, default=d) of an iterator's values -/
section
variable {prog : Program} {w : World} {A : Around} {R : Result → Shared → Prop} {I S : Addr} {fp wr : List Addr} {n : Nat} {P : Nat → Value → Prop} {St : Nat → Heap → Prop} {bt : Nat → Nat → Bool} {d : Value}
/-- the best so far, twice, or nothing yet -/
def BestOf (P : Nat → Value → Prop) (bt : Nat → Nat → Bool) (i : Nat) (old : List Value) : Prop := (i = 0 ∧ old = []) ∨ ∃ vb j, i = j + 1 ∧ old = [vb, vb] ∧ P (argBest bt j) vb
theorem maxD_loop (W : Walks prog w A.in1 I fp wr n P St) (cmp : CmpOf prog w A.in1 .Gt P bt) (sf : S ∉ fp) (m : Nat) : ∀ (i : Nat) (s : Shared) (old : List Value) (c : Nat), n - i = m → i ≤ n → St i s.heap → BestOf P bt i old →
    s.heap.get? S = some { cls := .type "list", dict := none, data := .seq old.toArray c, slots := #[] } →
    (∀ v h' tk, ((n = 0 ∧ v = d) ∨ ∃ j, n = j + 1 ∧ P (argBest bt j) v) → (∀ b o, b ∉ wr → b ≠ S → s.heap.get? b = some o → h'.get? b = some o) → R (.ok (.ret v)) { s with heap := h', toks := tk }) →
    codeAny (model prog w) A (.builtin "max.loop" ⟨[.ref I, .none, .ref S], [(Str.ofString "default", d)]⟩) R s := by
  have sw : S ∉ wr := fun h => sf (W.sub _ h)
  have nm : (toString "max" ++ toString ".loop" : String) = "max.loop" := by decide
  induction m with
  | zero =>
    intro i s old c hk hi hst hb hS hR
    have hin : i = n := by omega
    subst hin
    refine codeAny_builtin F.entry_max_loop ?_
    rw [Around.under_plainId F.plain_max_loop _]
    show wpAny _ A.in1 (seqItems? (.ref S) >>= _) _ _ s
    refine wpAny_bind (wpAny_seqItems hS rfl ?_)
    show wpAny _ A.in1 (tryCatch (pyNext (.ref I)) _ >>= _) _ _ s
    refine wpAny_bind (wpAny_tryCatch (W.done s _ _ hst fun h' tk kp => ?_))
    have hS' := kp S _ sw hS
    rcases hb with ⟨e1, e2⟩ | ⟨vb, j, e1, e2, hP⟩
    · subst e2
      show wpAny _ A.in1 (rule _ >>= _) _ _ _
      refine wpAny_bind (wpAny_rule (wpAny_pure ?_))
      exact hR d h' tk (.inl ⟨e1, rfl⟩) fun b o h1 h2 e => kp b o h1 e
    · subst e2
      show wpAny _ A.in1 (updateSeq S (fun _ => #[]) >>= _) _ _ _
      refine wpAny_bind ?_
      refine wpAny_updateSeq hS' rfl (wpAny_bind (wpAny_letGo (wpAny_pure ?_)))
      exact hR vb _ tk (.inr ⟨j, e1, hP⟩) fun b o h1 h2 e => (Heap.get?_update_other _ _ (Ne.symm h2)).trans (kp b o h1 e)
  | succ m ih =>
    intro i s old c hk hi hst hb hS hR
    have hlt : i < n := by omega
    refine codeAny_builtin F.entry_max_loop ?_
    rw [Around.under_plainId F.plain_max_loop _]
    show wpAny _ A.in1 (seqItems? (.ref S) >>= _) _ _ s
    refine wpAny_bind (wpAny_seqItems hS rfl ?_)
    show wpAny _ A.in1 (tryCatch (pyNext (.ref I)) _ >>= _) _ _ s
    refine wpAny_bind (wpAny_tryCatch (W.item i s _ _ hlt hst fun v h' tk hP st1 kp => ?_))
    have hS' := kp S _ sw hS
    rcases hb with ⟨e1, e2⟩ | ⟨vb, j, e1, e2, hB⟩
    · subst e2
      show wpAny _ A.in1 (updateSeq S (fun _ => #[v, v]) >>= _) _ _ _
      refine wpAny_bind ?_
      refine wpAny_updateSeq hS' rfl ?_
      rw [nm]
      refine wpAny_pure ⟨plainId_quiet F.plain_max_loop _, ih (i + 1) _ [v, v] _ (by omega) hlt (W.frame _ _ _ st1 fun b hbf o e => ?_) (.inr ⟨v, i, rfl, rfl, by rw [e1] at hP ⊢; exact hP⟩) (Heap.get?_update_self _ hS' rfl) fun v' h2 tk2 hv k2 => ?_⟩
      · exact (Heap.get?_update_other _ _ (fun h : S = b => sf (by rw [h]; exact hbf))).trans e
      · exact hR v' h2 tk2 hv fun b o h1 h3 e => k2 b o h1 h3 ((Heap.get?_update_other _ _ (Ne.symm h3)).trans (kp b o h1 e))
    · subst e2
      show wpAny _ A.in1 (tryCatch (holding [v, v] (richCompare .Gt v vb >>= _)) _ >>= _) _ _ _
      refine wpAny_bind (wpAny_tryCatch (wpAny_holding (wpAny_bind (cmp i (argBest bt j) v vb _ _ _ hP hB ?_))))
      refine wpAny_bind (wpAny_holding (wpAny_truthy_bool ?_))
      refine wpAny_bind (wpAny_letGo (wpAny_pure ?_))
      cases hc : bt i (argBest bt j) with
      | true =>
        simp only [if_true]
        refine wpAny_bind ?_
        refine wpAny_updateSeq hS' rfl (wpAny_bind (wpAny_letGo ?_))
        rw [nm]
        refine wpAny_pure ⟨plainId_quiet F.plain_max_loop _, ih (i + 1) _ [v, v] _ (by omega) hlt (W.frame _ _ _ st1 fun b hbf o e => ?_) (.inr ⟨v, i, rfl, rfl, by subst e1; simp only [argBest, hc, if_true]; exact hP⟩) (Heap.get?_update_self _ hS' rfl) fun v' h2 tk2 hv k2 => ?_⟩
        · exact (Heap.get?_update_other _ _ (fun h : S = b => sf (by rw [h]; exact hbf))).trans e
        · exact hR v' h2 tk2 hv fun b o h1 h3 e => k2 b o h1 h3 ((Heap.get?_update_other _ _ (Ne.symm h3)).trans (kp b o h1 e))
      | false =>
        simp only [Bool.false_eq_true, if_false]
        refine wpAny_bind (wpAny_letGo ?_)
        rw [nm]
        refine wpAny_pure ⟨plainId_quiet F.plain_max_loop _, ih (i + 1) _ [vb, vb] c (by omega) hlt st1 (.inr ⟨vb, i, rfl, rfl, by subst e1; simp only [argBest, hc, Bool.false_eq_true, if_false]; exact hB⟩) hS' fun v' h2 tk2 hv k2 => ?_⟩
        exact hR v' h2 tk2 hv fun b o h1 h3 e => k2 b o h1 h3 (kp b o h1 e)
end
theorem F.args_maxD (a d : Value) : argsOk "max" ⟨[a], [(Str.ofString "default", d)]⟩ := by unfold argsOk; kernel_rfl
section
variable {prog : Program} {w : World} {A : Around} {E : Value → Shared → Prop} {s : Shared}
theorem kw_function {id : String} {b : Builtin} {ar : List Value} {kw : List (Str × Value)} {Q : Value → Shared → Prop} (hk : builtinKind id = none) (hp : plainId id = true) (hb : entryFor table id = some b) (ha : argsOk id ⟨ar, kw⟩)
    (run : wpAny (model prog w) A.in1 (b ⟨ar, kw⟩) (fun fin s' => match fin with
      | .done f => (match (Except.ok f : Result) with | .ok (.ret v) => Q v s' | .ok _ => False | .error e => E e s')
      | .again c => c.quiet = true ∧ codeAny (model prog w) A c (fun r s2 => match r with | .ok (.ret v) => Q v s2 | .ok _ => False | .error e => E e s2) s') E s) :
    wpAny (model prog w) A (call (.builtin id) ar kw) Q E s := by
  refine wpAny_call (codeAny_call_builtin hp hb ?_)
  simp only [checkBuiltinCall, hk]
  cases sg : Manifest.signature? id with
  | none => exact wpAny_pure run
  | some sig =>
    simp only [argsOk, sg] at ha
    show wpAny _ A.in1 (Bind.checkArgs id sig ⟨ar, kw⟩) _ _ s
    rw [show Bind.checkArgs id sig ⟨ar, kw⟩ = pure () from ha]
    exact wpAny_pure run
theorem max_listD {l : Addr} {xs : Array (Int × Tok)} {d : Value} {Q : Value → Shared → Prop} (hh : A.handled = none) (hl : s.heap.IsList l (intItems xs))
    (h : ∀ v h' tk, ((xs.size = 0 ∧ v = d) ∨ ∃ j, xs.size = j + 1 ∧ (intItems xs)[argBest (fun i j => decide (numAt xs i > numAt xs j)) j]? = some v) → (∀ b o, s.heap.get? b = some o → h'.get? b = some o) → Q v { s with heap := h', toks := tk }) :
    wpAny (model prog w) A (call (.builtin "max") [.ref l] [(Str.ofString "default", d)]) Q E s := by
  refine kw_function F.kind_max F.plain_max F.entry_max (F.args_maxD _ _) ?_
  show wpAny _ A.in1 (Builtin.Builtins.bindParams "max" ["key", "default"] 0 ⟨[], [(Str.ofString "default", d)]⟩ >>= _) _ _ s
  refine wpAny_bind (wpAny_of_eq (show Builtin.Builtins.bindParams "max" ["key", "default"] 0 ⟨[], [(Str.ofString "default", d)]⟩ = pure [none, some d] from rfl) ?_)
  refine wpAny_bind (wpAny_pure ?_)
  refine wpAny_bind (iter_intList hl fun s2 e st hfp ne => ?_)
  subst e
  have W := Walks.list (prog := prog) (w := w) (A := A.in1) hh s.heap.objs.size l ne (intItems xs)
  refine wpAny_bind (wpAny_newObj_type ?_)
  rw [show (toString "max" ++ toString ".loop" : String) = "max.loop" by decide]
  refine wpAny_pure ⟨plainId_quiet F.plain_max_loop _, maxD_loop (n := (intItems xs).size) W (CmpOf.ints_gt (numAt xs) (fun _ _ => intItems_at)) (fun z => Nat.lt_irrefl _ (hfp _ z)) _ 0 _ [] _ rfl (Nat.zero_le _)
    (W.frame _ _ _ st fun b _ o e => Heap.get?_push_of_some _ e) (.inl ⟨rfl, rfl⟩) (Heap.get?_push_size _ rfl) fun v h' tk hv hk => ?_⟩
  refine h v h' tk (by simpa [intItems] using hv) fun b o e => ?_
  have e1 := Heap.get?_push_of_some { cls := .type "list_iterator", data := .fields #[.ref l, .int 0 0] } e
  have lb : b < s.heap.objs.size := Heap.lt_size e
  exact hk b o (fun z => by
    have y : b = s.heap.objs.size := by simpa using z
    exact absurd lb (by rw [y]; exact Nat.lt_irrefl _)) (fun z => by
    have y : b = s.heap.objs.size + 1 := by simpa [Heap.size_push] using z
    exact absurd lb (by rw [y]; exact Nat.not_lt.mpr (Nat.le_succ _))) (Heap.get?_push_of_some _ e1)
end
end PySem

namespace M2
open PySem PySem.Spec PyProof.Rows L2
variable [Tb]
def rMaxDf (K : PySem.W.Frag) : List V → List V → Hp → VK → Prop := fun vs zs H Q => ∃ (a : Addr) (ns : List Int) (dv : V), vs = [V.ref a] ∧ zs = [dv] ∧ SqL K H a (ns.map V.int) ∧ (ns = [] → Q dv H) ∧ ∀ m ∈ ns, (∀ y ∈ ns, y ≤ m) → Q (.int m) H
theorem cr_maxDf {X : Cx} (hc : X.calm = true) : CallRK X (.builtin "max") [Str.ofString "default"] (rMaxDf X.K) := by
  intro pins s σ H vs zs us ws Q I r rz h
  obtain ⟨a, ns, dv, rfl, rfl, hs, q0, q⟩ := h
  obtain ⟨its, rv, hl, _⟩ := I.list hs
  rw [Vals.ref1 r]
  obtain ⟨wd, rfl, rd⟩ := rz.one
  have hi : IntsAre its ns := rv.ints
  obtain ⟨xs, e⟩ := hi.allInts.items
  have hn : numsOf (intItems xs).toList = ns := by rw [← e]; exact hi.numsOf
  rw [nums_intItems] at hn
  have hl' := hl.isList
  rw [e] at hl'
  refine max_listD (I.ok.hd hc) hl' fun v h' tk hv hk => ?_
  rcases hv with ⟨e0, rfl⟩ | ⟨j, ej, hj⟩
  · refine ⟨dv, H, I.kept hk, rd, q0 ?_⟩
    rw [← hn]
    have : xs.toList = [] := List.length_eq_zero_iff.mp (by rw [Array.length_toList]; exact e0)
    rw [this]; rfl
  · obtain ⟨t, rfl⟩ := intItems_at hj
    obtain ⟨h1, h2⟩ := argBest_gt (numAt xs) j
    refine ⟨.int _, H, I.kept hk, ⟨t, rfl⟩, q _ ?_ fun y hy => ?_⟩
    · rw [← hn, numAt_eq]
      exact PySem.getD_mem (by rw [List.length_map, Array.length_toList]; omega)
    · rw [← hn] at hy
      obtain ⟨i, hi2, rfl⟩ := mem_getD hy
      rw [List.length_map, Array.length_toList] at hi2
      have := h2 i (by omega)
      rw [numAt_eq] at this
      exact this
def fMaxDf : List D → List D → Sto → Option (D × Sto) := fun ds es st => match ds, es with
  | [.mu l], [d] => ((st[l]?).bind intsD).map fun ns => (match maxL ns with | some m => .int m | none => d, st)
  | _, _ => none
def mMaxDf (m md : MM D) : MM D := bnd (mArgs [m]) fun ds => bnd (mArgs [md]) fun es => stm (fMaxDf ds es)
theorem de_maxDf {X : Cx} {E : XK} {p pos kpos : Pos} {e de : Expr} {me md : MM D} (hc : X.calm = true) (hg : Gl X "max") (hm : X.mg "max" = none) (he : DE X E e me) (hd : DE X E de md)
    (hpe : ∀ {t tk : TA}, PA X [e] t → PK X [⟨some (Str.ofString "default"), de, kpos⟩] tk → CallRK X (.builtin "max") [Str.ofString "default"] (rMaxDf X.K) → PE X (.Call (.Name "max" p) [e] [⟨some (Str.ofString "default"), de, kpos⟩] pos) (tCKw (rMaxDf X.K) t tk))
    (hs : starEach [e] X.env = (false, eval e X.env) :: starEach [] X.env) :
    DE X E (.Call (.Name "max" p) [e] [⟨some (Str.ofString "default"), de, kpos⟩] pos) (mMaxDf me md) :=
  pe_imp (hpe (da_cons he da_nil hs) (pk_cons hd pk_nil) (cr_maxDf hc)) fun σ H Q ⟨en, st, φ, g⟩ => ⟨en, st, φ, g.bind.imp fun st1 ds φ1 H1 _ _ ⟨k1, r1, g1⟩ vs hv => by
    refine ⟨en, st1, φ1, g1.bind.bind.imp fun st2 d φ2 H2 _ _ ⟨k2, r2, g2⟩ z hz => ?_⟩
    obtain ⟨_, _, g3⟩ := g2.bind.ret
    obtain ⟨_, _, g4⟩ := (show Gat X.K E (ret [d]) σ en st2 φ2 H2 _ from g2).ret
    obtain ⟨x, st3, e3, q⟩ := g4.stm
    unfold fMaxDf at e3
    cases ds with
    | nil => cases e3
    | cons d0 r0 =>
      cases r0 with
      | cons _ _ => cases d0 <;> cases e3
      | nil =>
        cases d0 with
        | mu l =>
          cases e4 : st2[l]? with
          | none => simp only [e4] at e3; cases e3
          | some xs =>
            cases e5 : intsD xs with
            | none => simp only [e4, Option.bind_some, e5] at e3; cases e3
            | some ns =>
              simp only [e4, Option.bind_some, e5, Option.map_some] at e3
              cases e3
              obtain ⟨v, rfl, hv1⟩ := hv.one
              obtain ⟨a, rfl, ha⟩ := (hv1.mono k2).mutI
              obtain ⟨ws, g5, g6⟩ := r2.get l a xs ha e4
              rw [intsD_eq e5] at g6
              refine ⟨a, ns, z, rfl, rfl, by rw [← g6.ints]; exact .of g5, fun h0 => ?_, fun m hm hall => ?_⟩
              · subst h0
                exact q φ2 H2 .refl r2 z hz
              · cases e6 : maxL ns with
                | none => cases ns with
                  | nil => cases hm
                  | cons _ _ => cases e6
                | some mm =>
                  rw [e6] at q
                  obtain ⟨m1, m2⟩ := maxL_some e6
                  rw [show m = mm from Int.le_antisymm (m2 m hm) (hall mm m1)]
                  exact q φ2 H2 .refl r2 _ .int
        | _ => cases e3⟩
end M2
set_option Elab.async false
set_option linter.all false
set_option maxRecDepth 100000
set_option maxHeartbeats 4000000
namespace PySem
open AutoSeq1 (wpAny_loadPart')
/-! enumerate(a tuple) -/
theorem enumT_new {v : Value} {o : Obj} {H : Heap → Prop} (B : Begins v o H) :
    Meets (Builtin.«enumerate.__new__» ⟨[.type "enumerate", v], []⟩) (fun _ R s => H s.heap ∧ R (.ok (.ret (.ref (s.heap.push o).objs.size)))
      { s with heap := (s.heap.push o).push { cls := .type "enumerate", data := .fields #[.none, .bool false, .ref s.heap.objs.size, rawInt 0, .none, .none] } }) :=
  .of_wp fun prog w A R s z => by
    obtain ⟨hp, gs, dr, tk, os⟩ := s
    obtain ⟨z1, z2⟩ := z
    have sb := sub_enumerate
    have it : ∀ {A2 : Around} {E : Value → Shared → Prop} {Q : Value → Shared → Prop}, Q (.ref hp.objs.size) ⟨hp.push o, gs, dr, tk, os⟩ → wpAny (model prog w) A2 (pyIter v) Q E ⟨hp, gs, dr, tk, os⟩ :=
      fun q => B.iter prog w _ _ ⟨hp, gs, dr, tk, os⟩ _ z1 q
    wp_walk using it
    refine wpAny_stack_any fun st => wpAny_pure ?_
    split
    · rename_i c _ _ _ _ _
      cases (c == Value.type "enumerate") <;> (wp_walk using it) <;> exact ⟨_, rfl, z2⟩
    · wp_walk using it
      exact ⟨_, rfl, z2⟩
theorem enumT_call {prog : Program} {w : World} {A : Around} {E : Value → Shared → Prop} {s : Shared} {v : Value} {o : Obj} {H : Heap → Prop} {Q : Value → Shared → Prop} (B : Begins v o H) (h1 : H s.heap)
    (q : ∀ h', IsEnum h' (s.heap.objs.size + 1) s.heap.objs.size 0 .none → h'.get? s.heap.objs.size = some o → (∀ b u, s.heap.get? b = some u → h'.get? b = some u) → Q (.ref (s.heap.objs.size + 1)) { s with heap := h' }) :
    wpAny (model prog w) A (call (.type "enumerate") [v]) Q E s := by
  refine callType_new F.called_enumerate (by decide) (F.typeCall_enumerate_1 _) (F.newCall_enumerate_1 _) (fun obj => F.args_object_init_2 obj _) F.entry_enumerate_new (enumT_new B) ⟨h1, ?_⟩
  have sz : (s.heap.push o).objs.size = s.heap.objs.size + 1 := Heap.size_push ..
  show _ ∧ _
  rw [sz]
  have e2 : IsEnum ((s.heap.push o).push { cls := .type "enumerate", data := .fields #[.none, .bool false, .ref s.heap.objs.size, rawInt 0, .none, .none] }) (s.heap.objs.size + 1) s.heap.objs.size 0 .none := by
    have y := Heap.get?_push_size (s.heap.push o) (o := { cls := .type "enumerate", data := .fields #[.none, .bool false, .ref s.heap.objs.size, rawInt 0, .none, .none] }) rfl
    rw [sz] at y
    exact y
  exact ⟨⟨_, e2, rfl⟩, q _ e2 (Heap.get?_push_of_some _ (Heap.get?_push_size _ B.free)) fun b u x => Heap.get?_push_of_some _ (Heap.get?_push_of_some _ x)⟩
theorem enumT_end {prog : Program} {w : World} {A : Around} {E : Value → Shared → Prop} {s : Shared} {e it l : Addr} {i : Int} {j : Nat} {items : Array Value} {old : Value} {Q : Option Value → Shared → Prop} (hh : A.handled = none)
    (he : IsEnum s.heap e it i old) (hit : s.heap.IsTupleIter it l j) (hl : s.heap.IsTuple l items) (hx : items[j]? = none) (hQ : ∀ h', Heap.ExtBut it s.heap h' → Q none { s with heap := h' }) : wpAny (model prog w) A (pyNext (.ref e)) Q E s := by
  have hT : s.TypeIs (.ref e) "enumerate" := ⟨_, he, rfl⟩
  unfold pyNext
  refine wpAny_bind (wpAny_attempt (wpAny_callSpecial?_slot (name := Str.ofString "__next__") hT F.slot_enumerate_next (wpAny_call_entry F.slot_enumerate_next hT F.entry_enumerate_next ?_ (F.args_enumerate_next_1 _))))
  show wpAny _ _ (field (.ref e) 2 >>= _) _ _ _
  refine wpAny_bind (wpAny_field he rfl (x := .ref it) rfl (wpAny_bind (wpAny_nextOf_tuple_end hh hit hl hx fun h2 x k2 z => ?_)))
  obtain ⟨o, ho, oc⟩ := z
  exact wpAny_bind (wpAny_isInstance (T := "StopIteration") (b := true) ⟨o, ho, oc⟩ isSubtype_stop (wpAny_pure (hQ _ k2)))
end PySem
namespace M2
open PySem PySem.Spec PyProof.Rows L2
variable [Tb]
/-- the tuple at a, each item in a new pair -/
def IteT (K : PySem.W.Frag) (a : Addr) : It :=
  ⟨fun i H => ∃ (xs : List V) (x : V), SqT K H a xs ∧ xs[i]? = some x, fun i H v H' => ∃ T x, v = .ref T ∧ H T = none ∧ H' = upd H T (.tup [.int (i : Nat), x]) ∧ ∀ xs, SqT K H a xs → xs[i]? = some x, fun i H => ∃ xs : List V, SqT K H a xs ∧ xs.length ≤ i⟩
theorem turn_enumT {P : Program} {w : World} {K : PySem.W.Frag} {elts : List Expr} {kk : Nat} {tpos : Pos} (a e it : Addr) :
    Turn P w K (.Tuple elts kk tpos) (IteT K a) [e, it] e (fun i h => (∃ old, IsEnum h e it ((i : Nat) : Int) old) ∧ h.IsTupleIter it a i ∧ e ≠ it) where
  mem := by simp
  obj := fun i h z b hb => by
    obtain ⟨⟨old, he⟩, ⟨o, ho, _, hd⟩, _⟩ := z
    rcases (show b = e ∨ b = it by simpa using hb) with y | y
    · subst y; exact ⟨_, he, fun v q => nomatch q⟩
    · subst y; exact ⟨o, ho, fun v q => by rw [hd] at q; cases q⟩
  keep := fun i h h' z k => by
    obtain ⟨⟨old, he⟩, hi, n1⟩ := z
    exact ⟨⟨old, k e (by simp) _ he⟩, hi.at fun o q => k it (by simp) o q, n1⟩
  item := by
    intro X hP hw hK hc i pins s σ H E I hf z hg
    subst hP hw hK
    obtain ⟨⟨old, he⟩, hi, ne⟩ := z
    obtain ⟨xs, x, hq, hx⟩ := hg
    obtain ⟨its, rv, pt, hz⟩ := I.tuple hq
    obtain ⟨u, hu, ru⟩ := rv.get hx
    have le : e < s.heap.objs.size := Heap.lt_size he
    have li : it < s.heap.objs.size := by obtain ⟨_, q, _⟩ := hi; exact Heap.lt_size q
    have nea : e ≠ a := fun q => by
      obtain ⟨o, ho, hcl, _⟩ := pt
      rw [← q] at ho
      rw [show s.heap.get? e = _ from he] at ho
      cases ho
      exact absurd hcl (by simp)
    have nia : a ≠ it := fun q => by
      obtain ⟨o, ho, hcl, _⟩ := pt
      obtain ⟨o2, ho2, hc2, _⟩ := hi
      rw [q, ho2] at ho
      cases ho
      rw [hc2] at hcl
      exact absurd hcl (by simp)
    have ti : s.heap.IsTuple a its.toArray := pt
    have DR := Draws.tuple (prog := X.prog) (w := X.w) (A := X.A.in1) (I.ok.hd hc) it a nia its.toArray
    have hlt : i < its.toArray.size := by simpa using (List.getElem?_eq_some_iff.mp hu).1
    refine wpAny_pyNext_enum_itemD DR he ⟨hi, ti⟩ hlt ne (by simp [ne, nea]) fun y h' tk hy ho st2 hT hsz hk => ?_
    obtain rfl : y = u := by
      have e1 : its[i]? = some y := by simpa using hy
      rw [hu] at e1
      exact (Option.some.inj e1).symm
    refine ⟨_, rfl, wpAny_letOwnedTupleGo_enum (s := { s with heap := h', toks := tk + 1 }) ho fun h2 he2 sb => ?_⟩
    have hT2 : h2.get? s.heap.objs.size = some { cls := .type "tuple", data := .seq #[.int i tk, y] } := (sb.2 _ (Nat.ne_of_gt le)).trans hT
    have new : ObjOk X.prog X.w (upd H s.heap.objs.size (.tup [.int (i : Nat), x])) h2 s.heap.objs.size (.tup [.int (i : Nat), x]) :=
      ⟨by show 2 ≤ sizeLine; decide, [.int i tk, y], .cons ⟨_, rfl⟩ (.cons ru .nil), ⟨_, hT2, rfl, _, rfl⟩⟩
    have I1 : Inv X pins σ (upd H s.heap.objs.size (.tup [.int (i : Nat), x])) { s with heap := h2, toks := tk + 1 } :=
      I.turnedNew (ch := [e, it]) (fun b ob hb q => (sb.2 b (fun z => hb (by simp [z]))).trans (hk b ob (fun z => hb (by simp [z])) (fun z => hb (by simp [z])) q)) hf (Nat.le_refl _) new
    refine ⟨.ref s.heap.objs.size, _, I1, rfl, ⟨_, x, rfl, I.hok.fresh (Nat.le_refl _), rfl, fun ys hy => by rw [I.tuple_inj hy hq]; exact hx⟩, ⟨⟨y, ?_⟩, st2.1.at fun o q => (sb.2 it (Ne.symm ne)).trans q, ne⟩, fun b hb => ?_⟩
    · rw [show ((i + 1 : Nat) : Int) = (i : Int) + 1 by omega]; exact he2
    · have lb : b < s.heap.objs.size := by
        rcases (show b = e ∨ b = it by simpa using hb) with q | q
        · subst q; exact le
        · subst q; exact li
      rw [upd_ne (Nat.ne_of_lt lb)]
      exact (hf b hb).1
  done := by
    intro X hP hw hK hc i pins s σ H E I hf z hg
    subst hP hw hK
    obtain ⟨⟨old, he⟩, hi, ne⟩ := z
    obtain ⟨xs, hq, hx⟩ := hg
    obtain ⟨its, rv, pt, hz⟩ := I.tuple hq
    have nia : a ≠ it := fun q => by
      obtain ⟨o, ho, hcl, _⟩ := pt
      obtain ⟨o2, ho2, hc2, _⟩ := hi
      rw [q, ho2] at ho
      cases ho
      rw [hc2] at hcl
      exact absurd hcl (by simp)
    obtain ⟨f0, f1, f2, f3, f4, f5⟩ := hf it (by simp)
    have ln := rv.length
    -- the tuple's iterator is at its end or beyond: what is drawn of the items from here on is nothing
    have hend : its.toArray[i]? = none := by simp; omega
    have ti : s.heap.IsTuple a its.toArray := pt
    exact enumT_end (I.ok.hd hc) he hi ti hend fun h' eb => ⟨rfl, I.turned (t' := s.toks) (fun b o hb q => eb b o hb q) f0 f1 f3 f4 f5⟩
  self := fun A i s Q E z q => by
    obtain ⟨⟨_, he⟩, _⟩ := z
    exact wpAny_pyIter_enum he q
def iEnumT (K : PySem.W.Frag) (ta : TA) : TI := fun σ H R => ta σ H fun vs H1 => ∃ a xs, vs = [.ref a] ∧ SqT K H1 a xs ∧ R (IteT K a) H1
theorem pi_enumT {X : Cx} {e : Expr} {ta : TA} {p pos tpos : Pos} {elts : List Expr} {kk : Nat} (hg : Gl X "enumerate") (hm : X.mg "enumerate" = none) (ha : PA X [e] ta) (hs : starEach [e] X.env = [(false, eval e X.env)]) :
    PI X (.Tuple elts kk tpos) (.Call (.Name "enumerate" p) [e] [] pos) (iEnumT X.K ta) := by
  refine ⟨fun pins s σ H R I h => Call_ (ld_blt I hg hm boot_enumerate (PyProof.Rows.callWith_type1 (thn (ha.run pos pins s σ H _ I h) fun us s1 z => ?_) hs rfl))⟩
  obtain ⟨vs, H1, I1, r1, a, xs, ex, hq, q⟩ := z
  subst ex
  obtain ⟨u, rfl, ru⟩ := vals1 r1
  cases ru
  obtain ⟨its, rv, pt, hz⟩ := I1.tuple hq
  have la : a < s1.heap.objs.size := by obtain ⟨o, ho, _⟩ := pt; exact Heap.lt_size ho
  refine enumT_call (begins_tuple a its.toArray) pt fun h' he hit hk => wpAny_pyIter_enum he ?_
  have I2 : Inv X pins σ H1 { s1 with heap := h' } := I1.kept (t' := s1.toks) hk
  refine ⟨s1.heap.objs.size + 1, [s1.heap.objs.size + 1, s1.heap.objs.size], _, _, H1, rfl, I2, turn_enumT a (s1.heap.objs.size + 1) s1.heap.objs.size, ⟨⟨.none, he⟩, ⟨_, hit, rfl, rfl⟩, Nat.succ_ne_self _⟩, fun b hb => ?_, q⟩
  have hle : s1.heap.objs.size ≤ b := by
    rcases (show b = s1.heap.objs.size + 1 ∨ b = s1.heap.objs.size by simpa using hb) with y | y
    · rw [y]; exact Nat.le_add_right _ _
    · rw [y]; exact Nat.le_refl _
  exact I1.fpOk hle (I1.hok.fresh hle)
theorem itr_enumT {K : PySem.W.Frag} {a : Addr} {vs : List V} {ds : List D} {φ0 : List Addr} {H0 : Hp} (h : SqT K H0 a vs) (r : VDs K H0 φ0 vs ds) : ItR K ⟨numbered 0 ds, none, []⟩ (IteT K a) φ0 H0 := fun φ H st kx rs _ => by
  have h' := kx.sqT h
  have r' := r.mono kx
  have hl := r'.length
  have nl := numbered_len 0 ds
  refine ⟨fun i hi => ?_, ⟨vs, h', by show vs.length ≤ (numbered 0 ds).length; omega⟩, fun i x H' hi hy => ?_⟩
  · have hi' : i < (numbered 0 ds).length := hi
    exact ⟨vs, vs[i]'(by omega), h', by simp⟩
  · have hi' : i < (numbered 0 ds).length := hi
    obtain ⟨T, v, rfl, hT, rfl, e2⟩ := hy
    have e3 := e2 vs h'
    have hd : i < ds.length := by omega
    obtain ⟨v', g1, g2⟩ := r'.get (List.getElem?_eq_getElem hd)
    rw [e3] at g1; cases g1
    obtain ⟨kx2, rs2⟩ := lay_tup (xs := [.int (i : Nat), v]) rs hT
    refine ⟨.tup [.int (i : Int), ds[i]], ?_, kx2, rs2, .tup (.of upd_same) (.cons .int (.cons (g2.mono kx2) .nil))⟩
    show (numbered 0 ds)[i]? = _
    rw [numbered_get, List.getElem?_eq_getElem hd, Nat.zero_add]; rfl
theorem di_enumT {X : Cx} {E : XK} {e : Expr} {me : MM D} {p pos tpos : Pos} {elts : List Expr} {kk : Nat} (hg : Gl X "enumerate") (hm : X.mg "enumerate" = none) (ha : DA X E [e] (mArgs [me])) (hs : starEach [e] X.env = [(false, eval e X.env)]) :
    DI X E (.Tuple elts kk tpos) (.Call (.Name "enumerate" p) [e] [] pos) (mEnum me) :=
  pi_imp (pi_enumT hg hm ha hs) fun σ H R ⟨en, st, φ, g⟩ => by
    refine ⟨en, st, φ, ?_⟩
    obtain ⟨re, rs, r, st', em, q⟩ := g.bind
    refine ⟨re, rs, r.map (fun d => [d]), st', ?_, fun φ' H' kx rs' => ?_⟩
    · show bnd me (fun d => bnd (ret []) fun ds => ret (d :: ds)) en st = _
      unfold bnd
      rw [em]
      cases r <;> rfl
    · have z := q φ' H' kx rs'
      cases r with
      | error c => exact z
      | ok d =>
        intro vs hv
        obtain ⟨v, rfl, h⟩ := hv.one
        obtain ⟨_, _, g1⟩ := z
        obtain ⟨it, e1, q1⟩ := g1.asg
        cases d with
        | tup ds =>
          cases e1
          obtain ⟨a, ws, rfl, h1, h2⟩ := h.tupI
          exact ⟨a, ws, rfl, h1, q1 _ (itr_enumT h1 h2)⟩
        | _ => cases e1
end M2
set_option Elab.async false
set_option linter.all false
set_option maxRecDepth 100000
set_option maxHeartbeats 4000000
namespace M2
open PySem PySem.Spec PyProof.Rows L2
variable [Tb]

/-! ### == and != of texts or of data -/
def fEqA : FD2 := fun x y st => match x, y with
  | .str a, .str b => some (.bl (decide (a = b)), st)
  | x, y => fEq x y st
def fNeA : FD2 := fun x y st => match x, y with
  | .str a, .str b => some (.bl (!decide (a = b)), st)
  | x, y => fNe x y st
section
variable {X : Cx}
theorem op_eqA (hu : X.A.units + 64 < cLine) : OpR X (compareOp .Eq) (fun x y H Q => rEq x y H Q ∨ rEqD X.K x y H Q) := op_eq.or (op_eqD hu)
theorem op_neA (hu : X.A.units + 64 < cLine) : OpR X (compareOp .NotEq) (fun x y H Q => rNe x y H Q ∨ rNeD X.K x y H Q) := op_ne.or (op_neD hu)
theorem opd_eqA : OpD X (fun x y H Q => rEq x y H Q ∨ rEqD X.K x y H Q) fEqA := by
  intro H φ st Q x y dx dy dz st' rs vx vy hf q
  unfold fEqA at hf
  split at hf
  · cases hf; cases vx; cases vy
    refine .inl ⟨rfl, ?_⟩
    simp only [V.str.injEq]
    exact q _ φ H .refl rs .bl
  · exact .inr (opd_eq H φ st Q x y _ _ dz st' rs vx vy hf q)
theorem opd_neA : OpD X (fun x y H Q => rNe x y H Q ∨ rNeD X.K x y H Q) fNeA := by
  intro H φ st Q x y dx dy dz st' rs vx vy hf q
  unfold fNeA at hf
  split at hf
  · cases hf; cases vx; cases vy
    refine .inl ⟨rfl, ?_⟩
    simp only [V.str.injEq]
    exact q _ φ H .refl rs .bl
  · exact .inr (opd_ne H φ st Q x y _ _ dz st' rs vx vy hf q)
end
/-! ### a, b = x, y -/
def sPar (i j : Nat) (ms : List (MM D)) : MS := sEx (mArgs ms) fun ds => fun en st => match ds with
  | [v, w] => if i < en.length ∧ j < en.length then some (.nx, (en.set i (some v)).set j (some w), st) else none
  | _ => none
section
variable {X : Cx} {E : XK}
theorem ds_par {i j : Nat} {x y : Str} {a b : Expr} {ms : List (MM D)} {px py pt pos : Pos} {kt k2 : Nat} {pt2 : Pos} (hc : X.calm = true) (hN : X.N.Nodup) (hi : X.N[i]? = some x) (hj : X.N[j]? = some y) (hij : i ≠ j)
    (hx : X.env.scope.names.lookup x = some .local) (hy : X.env.scope.names.lookup y = some .local) (ha : DA X E [a, b] (mArgs ms))
    (hw : swappedStores [.Tuple [.Name x px, .Name y py] kt pt] (.Tuple [a, b] k2 pt2) X.env = pure (some [x, y])) (hs : swapsWithSole [.Tuple [.Name x px, .Name y py] kt pt] (.Tuple [a, b] k2 pt2) pos.line X.env = pure false) :
    DS1 X E (.Assign [.Tuple [.Name x px, .Name y py] kt pt] (.Tuple [a, b] k2 pt2) pos) (sPar i j ms) :=
  ps_imp (ps_par hc hN hi hj hij hx hy ha hw hs) fun D σ H ⟨en, st, φ, g⟩ => ⟨en, st, φ, g.ex'.imp fun st1 ds φ1 H1 _ _ ⟨k1, r1, re, rs, c, en', st', e, q⟩ vs hv => by
    cases ds with
    | nil => cases e
    | cons v r =>
      cases r with
      | nil => cases e
      | cons w r =>
        cases r with
        | cons _ _ => cases e
        | nil =>
          replace e : (if i < en.length ∧ j < en.length then some (Ctl.nx, (en.set i (some v)).set j (some w), st1) else none) = some (c, en', st') := e
          split at e
          · cases e
            obtain ⟨v', w', rfl, h1, h2⟩ := hv.two
            exact ⟨v', w', rfl, q φ1 H1 .refl rs _ ((re.set h1).set h2)⟩
          · cases e⟩
theorem de_glob {x : Str} {pos : Pos} {i : Int} (hg : Gl X x) (hm : ∃ t, X.mg x = some (.int i t)) (hd : (x == ("__debug__" : Str)) = false) : DE X E (.Name x pos) (ret (.int i)) := by
  obtain ⟨t, hm⟩ := hm
  exact de_c (pe_glob (v := .int i) hg hm ⟨t, rfl⟩ hd) fun _ _ _ => .int
theorem de_tyn {x : Str} {pos : Pos} {n : String} (hg : Gl X x) (hm : X.mg x = none) (hv : bootBuiltins x = some (.type n)) (hn : x ≠ "__name__") (hd : (x == ("__debug__" : Str)) = false) : DE X E (.Name x pos) (ret (.ty n)) :=
  de_c (pe_bltn (v := .ty n) hg hm hv rfl hn hd) fun _ _ _ => .ty
end
/-- none of these names is the module's own -/
structure Bt (mg : Str → Option Value) : Prop where
  len : mg "len" = none
  max : mg "max" = none
  min : mg "min" = none
  sum : mg "sum" = none
  all : mg "all" = none
  tuple : mg "tuple" = none
  list : mg "list" = none
  repr : mg "repr" = none
  isinstance : mg "isinstance" = none
  range : mg "range" = none
  enumerate : mg "enumerate" = none
  int : mg "int" = none
  bool : mg "bool" = none
  str : mg "str" = none
  zip : mg "zip" = none
  any : mg "any" = none
end M2
set_option Elab.async false
set_option linter.all false
set_option maxRecDepth 100000
set_option maxHeartbeats 4000000
namespace M2
open PySem PySem.Spec PyProof.Rows L2
variable [Tb]

/-! ### t[::-1] of a tuple -/
section
variable {prog : Program} {w : World} {A : Around} {E : Value → Shared → Prop} {s : Shared}
theorem back_part {sl : Addr} {u : Tok} {n : Nat} {R : Int × Int × Nat → Shared → Prop} (q : s.heap.IsSliceOf sl .none .none (.int (-1) u)) (h : R ((n : Int) - 1, -1, n) s) :
    wpAny (model prog w) A (Builtin.Slice.sliceApplied (.ref sl) (pure (n : Int))) R E s := by
  have ⟨ob, e1, e2, e3⟩ := q
  unfold Builtin.Slice.sliceApplied Builtin.Slice.sliceFields
  refine wpAny_bind (wpAny_bind (wpAny_field e1 e3 (x := .none) rfl (wpAny_bind (wpAny_field e1 e3 (x := .none) rfl (wpAny_bind (wpAny_field e1 e3 (x := .int (-1) u) rfl (wpAny_pure ?_)))))))
  refine wpAny_bind (PyProof.Rows.slicePart_int ?_)
  show wpAny _ _ (if ((-1 : Int) == 0) = true then _ else _) _ _ s
  rw [if_neg (by decide)]
  refine wpAny_bind (PyProof.Rows.slicePart_none (wpAny_bind (PyProof.Rows.slicePart_none (wpAny_bind (wpAny_pure ?_)))))
  have adj : Builtin.Slice.sliceAdjust none none (-1) (n : Int) = ((n : Int) - 1, -1) := rfl
  have plc : Builtin.Slice.slicePlaces ((n : Int) - 1) (-1) (-1) = n := by
    unfold Builtin.Slice.slicePlaces
    rw [if_neg (by decide), show (- -1 : Int) = 1 from rfl, Int.ediv_one]
    split <;> omega
  show wpAny _ _ (match Builtin.Slice.sliceAdjust none none (-1) (n : Int) with | (lo, hi) => pure (lo, (-1 : Int), Builtin.Slice.slicePlaces lo hi (-1))) _ _ s
  rw [adj]
  show wpAny _ _ (pure ((n : Int) - 1, (-1 : Int), Builtin.Slice.slicePlaces ((n : Int) - 1) (-1) (-1))) _ _ s
  rw [plc]
  exact wpAny_pure h
theorem back_pick (xs : Array Value) : ((List.range xs.size).filterMap fun (k : Nat) => xs[(((xs.size : Nat) : Int) - 1 + (k : Int) * (-1)).toNat]?).toArray = xs.toList.reverse.toArray := by
  have e : ((List.range xs.size).filterMap fun (k : Nat) => xs[(((xs.size : Nat) : Int) - 1 + (k : Int) * (-1)).toNat]?) = ((List.range xs.size).map fun k => xs.size - 1 - k).filterMap (xs[·]?) := by
    rw [List.filterMap_map]
    congr 1
    funext k
    show _ = xs[xs.size - 1 - k]?
    congr 1
    omega
  rw [e, PySem.W.krv_range, List.filterMap_reverse, PySem.W.krv_all]
theorem back_item {t sl : Addr} {xs : Array Value} {u : Tok} {R : Value → Shared → Prop} (ht : IsTup s.heap t xs) (q : s.heap.IsSliceOf sl .none .none (.int (-1) u))
    (h : R (.ref s.heap.objs.size) { s with heap := s.heap.push { cls := .type "tuple", data := .seq xs.toList.reverse.toArray } }) (big : xs.size ≤ sizeLine) : wpAny (model prog w) A (getItem (.ref t) (.ref sl)) R E s := by
  have fit : sizeOk (.seq xs.toList.reverse.toArray) := by
    show xs.toList.reverse.toArray.size ≤ sizeLine
    rw [List.size_toArray, List.length_reverse, Array.length_toList]; exact big
  have ⟨ob, e1, e2, e3⟩ := q
  have isl : s.TypeIs (.ref sl) "slice" := ⟨ob, e1, e2⟩
  unfold getItem
  try (with_reducible refine wpAny_holding ?_)
  try refine wpAny_bind (wpAny_pure ?_)
  refine wpAny_bind (wpAny_sequenceKey ht.typeIs (by decide) (wpAny_bind (wpAny_callSpecial?_slot (name := Str.ofString "__getitem__") ht.typeIs PyProof.Rows.slot_tuple_getitem (wpAny_call_entry PyProof.Rows.slot_tuple_getitem ht.typeIs entry_tuple_getitem ?_ (args_tuple_getitem _ _)))))
  show wpAny _ _ (Builtin.Tuple.tupleItemsOf (.ref t) >>= _) _ _ s
  refine wpAny_bind (tupleItemsOf_ ht (wpAny_bind (wpAny_typeOf isl ?_)))
  rw [if_pos (by decide)]
  refine wpAny_bind (back_part q ?_)
  show wpAny _ _ (if (((xs.size : Nat) : Int) - 1 == 0 && (-1 : Int) == 1 && xs.size == xs.size) = true then _ else _) _ _ s
  rw [if_neg (by simp), back_pick xs]
  first
    | exact wpAny_bind (m := Builtin.Tuple.tupleExact _) (wpAny_newObj_type (wpAny_pure ⟨_, rfl, wpAny_pure h⟩) fit)
    | exact wpAny_bind (m := Builtin.Tuple.tupleExact _) (wpAny_newObj_type (wpAny_bind (wpAny_pure (wpAny_pure ⟨_, rfl, wpAny_pure h⟩))) fit)
    | exact wpAny_bind (wpAny_bind (m := Builtin.Tuple.tupleExact _) (wpAny_newObj_type (wpAny_pure (wpAny_pure ⟨_, rfl, wpAny_pure h⟩)) fit))
    | exact wpAny_bind (wpAny_bind (m := Builtin.Tuple.tupleExact _) (wpAny_newObj_type (wpAny_pure ⟨_, rfl, wpAny_pure h⟩) fit))
end
section
variable {X : Cx} {E : XK} {e : Expr} {me : MM D} {pos : Pos}
/-- e[::-1] of a list or of a tuple -/
def tBack (K : PySem.W.Frag) (te : TE) : TE := fun σ H Q => te σ H fun x H1 => ∃ a xs, x = .ref a ∧ ((SqL K H1 a xs ∧ ∀ p, H1 p = none → Q (.ref p) (upd H1 p (.lst xs.reverse))) ∨ (SqT K H1 a xs ∧ ∀ p, H1 p = none → Q (.ref p) (upd H1 p (.tup xs.reverse))))
theorem pe_back {te : TE} {k : Nat} {p1 p2 p3 : Pos} (he : PE X e te) : PE X (.Subscript e (.Slice none none (some (.UnaryOp .USub (.Constant (.int 1) k p1) p2)) p3) pos) (tBack X.K te) := by
  refine ⟨fun pins s σ H Q I h => Subscript_ (thn (he.run pins s σ H _ I h) fun v s1 ⟨x, H1, I1, r1, q1⟩ => ?_)⟩
  obtain ⟨a, xs, ex, cas⟩ := q1
  subst ex
  cases r1
  have stp : PO X (some (.UnaryOp .USub (.Constant (.int 1) k p1) p2)) (tPart (tUn (rU fun i => .int (-i)) (tC (.int 1)))) := po_some (pe_un un_neg pe_int)
  refine wpAny_Slice (thn (po_none.run pins s1 σ H1 (fun o Hb => o = none ∧ Hb = H1) I1 ⟨rfl, rfl⟩) fun vl s2 ⟨l, Hb, I2, pl, el, eb⟩ => ?_)
  subst el eb
  refine thn (po_none.run pins s2 σ Hb (fun o Hc => o = none ∧ Hc = Hb) I2 ⟨rfl, rfl⟩) fun vu s3 ⟨u, Hc, I3, pu, eu, ec⟩ => ?_
  subst eu ec
  refine thn (stp.run pins s3 σ Hc (fun o Hd => o = some (-1) ∧ Hd = Hc) I3 ⟨1, rfl, -1, rfl, rfl, rfl⟩) fun vs s4 ⟨o, Hd, I4, ps, eo, ed⟩ => ?_
  subst eo ed
  have J : Inv X pins σ Hd { s4 with heap := s4.heap.push { cls := .type "slice", data := .fields #[vl, vu, vs] } } := I4.kept (t' := s4.toks) fun b ob z => Heap.get?_push_of_some _ z
  show wpAny (model X.prog X.w) X.A (subscriptTail e (.Slice none none (some (.UnaryOp .USub (.Constant (.int 1) k p1) p2)) p3) (.ref a) (.ref s4.heap.objs.size)) (EP X pins σ Q) X.xe { s4 with heap := s4.heap.push { cls := .type "slice", data := .fields #[vl, vu, vs] } }
  rcases cas with ⟨hx, q⟩ | ⟨hx, q⟩
  · obtain ⟨its, r, ht, hz⟩ := J.list hx
    refine tail_any (ops := [.ref a, .ref s4.heap.objs.size]) ht.isList.typeIs (PySem.slot_list_getitem.lookup) (wpAny_getItem_list_slice ht.isList (Heap.IsSliceOf.new _ vl vu vs) pl pu ps (by decide) ?_ (by rw [List.size_toArray]; have := r.length; omega)) (by with_unfolding_all rfl)
    rw [PySem.W.krv_pick]
    exact ⟨.ref _, _, J.laid (t' := s4.toks) (o := .lst xs.reverse) (fun b ob z => Heap.get?_push_of_some _ z) (Nat.le_refl _) ⟨by rw [List.length_reverse]; exact hz, _, 0, r.reverse, Heap.get?_push_size _ rfl⟩, rfl, q _ (J.hok.fresh (Nat.le_refl _))⟩
  · obtain ⟨its, r, ht, hz⟩ := J.tuple hx
    cases pl
    cases pu
    cases ps with
    | int i t =>
      refine tail_any (ops := [.ref a, .ref s4.heap.objs.size]) ht.typeIs (PyProof.Rows.slot_tuple_getitem.lookup) (back_item ht (Heap.IsSliceOf.new _ _ _ _) ?_ (by rw [List.size_toArray]; have := r.length; omega)) (by with_unfolding_all rfl)
      exact ⟨.ref _, _, J.laid (t' := s4.toks) (o := .tup xs.reverse) (fun b ob z => Heap.get?_push_of_some _ z) (Nat.le_refl _) ⟨by rw [List.length_reverse]; exact hz, _, r.reverse, IsTup.new _ _⟩, rfl, q _ (J.hok.fresh (Nat.le_refl _))⟩
def fBack (d : D) : Sto → Option (D × Sto) := fun st => match d with
  | .mu l => (st[l]?).map fun xs => (.mu st.length, st ++ [xs.reverse])
  | .tup xs => some (.tup xs.reverse, st)
  | _ => none
def mBack (m : MM D) : MM D := bnd m fun d => stm (fBack d)
theorem de_back {k : Nat} {p1 p2 p3 : Pos} (he : DE X E e me) : DE X E (.Subscript e (.Slice none none (some (.UnaryOp .USub (.Constant (.int 1) k p1) p2)) p3) pos) (mBack me) :=
  pe_imp (pe_back he) fun σ H Q ⟨en, st, φ, g⟩ => ⟨en, st, φ, g.bind.imp fun st1 d φ1 H1 _ _ ⟨k1, r1, g1⟩ v hv => by
    obtain ⟨z, st2, e, q⟩ := g1.stm
    unfold fBack at e
    split at e
    · rename_i l _
      cases e2 : st1[l]? with
      | none => rw [e2] at e; cases e
      | some xs =>
        rw [e2] at e; cases e
        obtain ⟨a, rfl, ha⟩ := hv.mutI
        obtain ⟨ws, g1', g2'⟩ := r1.get l a xs ha e2
        refine ⟨a, ws, rfl, .inl ⟨.of g1', fun p hp => ?_⟩⟩
        obtain ⟨kx, rr⟩ := lay_lst (xs := ws.reverse) r1 hp g2'.rev
        exact q _ _ kx rr _ (.mu (by rw [← r1.len, List.getElem?_append_right (Nat.le_refl _)]; simp) ⟨_, upd_same⟩)
    · rename_i xs _
      cases e
      obtain ⟨a, ws, rfl, h1, h2⟩ := hv.tupI
      refine ⟨a, ws, rfl, .inr ⟨h1, fun p hp => ?_⟩⟩
      obtain ⟨kx, rr⟩ := lay_tup (xs := ws.reverse) r1 hp
      exact q _ _ kx rr _ (.tup (.inl (.inl upd_same)) (h2.rev.mono kx))
    · cases e⟩
end
end M2
set_option Elab.async false
set_option linter.all false
set_option maxRecDepth 100000
set_option maxHeartbeats 4000000
namespace M2
open PySem PySem.Spec PyProof.Rows L2
variable [Tb]
section
variable {X : Cx} {E : XK}
/-! ### t * k of a tuple -/
def rTupN (K : PySem.W.Frag) : R2 := fun x y H Q => ∃ (a : Addr) (k : Int) (xs : List V), x = .ref a ∧ y = .int k ∧ SqT K H a xs ∧ xs ≠ [] ∧ 2 ≤ k ∧ xs.length * k.toNat ≤ 100000 ∧ ∀ p, H p = none → Q (.ref p) (upd H p (.tup (List.replicate k.toNat xs).flatten))
theorem op_tupN : OpR X (binaryOp .Mult) (rTupN X.K) := by
  intro pins s σ H x y v u Q I rx ry h
  obtain ⟨a, j, ys, rfl, rfl, hT, ne, j2, small, q⟩ := h
  cases rx
  obtain ⟨tk, rfl⟩ := ry
  obtain ⟨vals, r, ⟨⟨cl, dd, dt, sl⟩, ho, hc, n, hd⟩, hs⟩ := I.tuple hT
  simp only at hc hd
  subst hc hd
  have ll : vals.length = ys.length := r.length.symm
  have j0 : ((j.toNat : Nat) : Int) = j := Int.toNat_of_nonneg (by omega)
  have prod : ((vals.toArray.size : Nat) : Int) * j ≤ 100000 := by
    rw [List.size_toArray, ll, ← j0, ← Int.natCast_mul]
    omega
  have sz : sizeLine = 16777216 := rfl
  have flat : (List.replicate j.toNat vals).flatten.length = j.toNat * ys.length := by rw [PyProof.Rows.lm_len_rep_flat, ll]
  have jle : j.toNat ≤ 100000 := by
    cases ys with
    | nil => exact absurd rfl ne
    | cons b bs =>
      have : 1 * j.toNat ≤ (b :: bs).length * j.toNat := Nat.mul_le_mul_right _ (by simp)
      omega
  have em : vals.toArray.isEmpty = false := by
    cases vals with
    | nil => exact absurd (List.eq_nil_of_length_eq_zero ll.symm) ne
    | cons _ _ => rfl
  have g0 : (decide (j < -(2 ^ 63)) || decide (j ≥ 2 ^ 63)) = false := by
    rw [decide_eq_false (by omega), decide_eq_false (by omega)] <;> rfl
  have g1 : (vals.toArray.isEmpty || j == 1) = false := by
    rw [em, Bool.false_or]; exact beq_eq_false_iff_ne.mpr (by omega)
  have g2 : (decide (j ≤ 0) || vals.toArray.isEmpty) = false := by
    rw [em, Bool.or_false]; exact decide_eq_false (by omega)
  have g4 : Builtin.Tuple.tupleTooMany (((vals.toArray.size : Nat) : Int) * j) = false := by
    unfold Builtin.Tuple.tupleTooMany
    rw [sz]; exact decide_eq_false (by omega)
  have comm : j.toNat * ys.length ≤ 100000 := by rw [Nat.mul_comm]; exact small
  refine wpAny_binaryOp_repeat_ref (T := "tuple") (U := "int") (by decide) ⟨_, ho, rfl⟩ (fun z => typeIs_int z j tk) noFill_tuple_mul F.fills_int_mul F.slot_int_rmul repeat_tuple F.slot_int_index.lookup (call_meets F.slot_int_rmul (typeIs_int s j tk) F.entry_int_rmul (F.args_int_rmul_2 _ _) (int_rmul_tuple j tk a vals.toArray n dd sl) ⟨ho, rfl, ⟨_, ho, rfl⟩, call_meets F.slot_tuple_mul ⟨_, ho, rfl⟩ F.entry_tuple_mul (F.args_tuple_mul_2 _ _) (tuple_mulW a vals.toArray n dd sl j tk g0 g1 g2 (by omega) g4 (by rw [size_rep, List.size_toArray, flat, sz]; omega)) ⟨ho, ?_⟩⟩)
  rw [size_rep]
  exact ⟨.ref s.heap.objs.size, _, I.laid (t' := s.toks) (o := .tup (List.replicate j.toNat ys).flatten) (fun b ob z => Heap.get?_push_of_some _ z) (Nat.le_refl _) ⟨by rw [PyProof.Rows.lm_len_rep_flat, sz]; omega, _, r.rep j.toNat, IsTup.new _ _⟩, rfl, q _ (I.hok.fresh (Nat.le_refl _))⟩
def fMulA : FD2 := fun x y st => match x, y with
  | .tup xs, .int k => if xs ≠ [] ∧ 2 ≤ k ∧ xs.length * k.toNat ≤ 100000 then some (.tup (List.replicate k.toNat xs).flatten, st) else none
  | x, y => fMul x y st
theorem op_mulT : OpR X (binaryOp .Mult) (fun x y H Q => rTupN X.K x y H Q ∨ rMulA x y H Q) := op_tupN.or op_mulA
theorem opd_mulT : OpD X (fun x y H Q => rTupN X.K x y H Q ∨ rMulA x y H Q) fMulA := by
  intro H φ st Q x y dx dy dz st' rs vx vy hf q
  unfold fMulA at hf
  split at hf
  · rename_i xs k
    split at hf
    · rename_i c
      cases hf
      obtain ⟨a, ws, rfl, h1, h2⟩ := vx.tupI
      cases vy
      refine .inl ⟨a, k, ws, rfl, rfl, h1, fun e => c.1 ?_, c.2.1, by rw [h2.length]; exact c.2.2, fun p hp => ?_⟩
      · have := h2.length
        rw [e] at this
        exact List.eq_nil_of_length_eq_zero this.symm
      · obtain ⟨kx, rr⟩ := lay_tup (xs := (List.replicate k.toNat ws).flatten) rs hp
        exact q _ _ _ kx rr (.tup (.inl (.inl upd_same)) ((h2.rep _).mono kx))
    · cases hf
  · exact .inr (opd_mul H φ st Q x y _ _ dz st' rs vx vy hf q)
/-! ### int(x), str(n) -/
def fInt : FDB := fun ds st => match ds with
  | [.int i] => some (.int i, st)
  | [.bl k] => some (.int (if k then 1 else 0), st)
  | _ => none
theorem cal_int : CalD X (fun xs H Q => (∃ i, xs = [.int i] ∧ Q (.int i) H) ∨ ∃ k, xs = [.bl k] ∧ Q (.int (if k then 1 else 0)) H) fInt := by
  intro H φ st Q vs ds dz st' rs hv hf q
  unfold fInt at hf
  split at hf
  · cases hf
    obtain ⟨v, rfl, h⟩ := hv.one
    cases h
    exact .inl ⟨_, rfl, q _ φ H .refl rs .int⟩
  · cases hf
    obtain ⟨v, rfl, h⟩ := hv.one
    cases h
    exact .inr ⟨_, rfl, q _ φ H .refl rs .int⟩
  · cases hf
def fStr : FDB := fun ds st => match ds with
  | [.int i] => if i.natAbs.log2 < 1920 then some (.str (toString i), st) else none
  | [.bl k] => some (.str (if k then "True" else "False"), st)
  | _ => none
def rStrA : List V → Hp → VK → Prop := fun xs H Q => (∃ i, xs = [.int i] ∧ i.natAbs.log2 < 1920 ∧ Q (.str (toString i)) H) ∨ ∃ k, xs = [.bl k] ∧ Q (.str (if k then "True" else "False")) H
theorem call_strA : CallR X (.type "str") rStrA := by
  intro pins s σ H xs us Q I r h
  rcases h with h | ⟨k, rfl, q⟩
  · exact call_str_int pins s σ H xs us Q I r h
  · obtain ⟨u, rfl, ru⟩ := vals1 r
    cases ru
    exact PySem.P.str_of_bool ⟨.str _, H, I.tok _, ⟨_, rfl⟩, by cases k <;> exact q⟩
theorem cal_str : CalD X rStrA fStr := by
  intro H φ st Q vs ds dz st' rs hv hf q
  unfold fStr at hf
  split at hf
  · split at hf
    · rename_i c
      cases hf
      obtain ⟨v, rfl, h⟩ := hv.one
      cases h
      exact .inl ⟨_, rfl, c, q _ φ H .refl rs .str⟩
    · cases hf
  · cases hf
    obtain ⟨v, rfl, h⟩ := hv.one
    cases h
    exact .inr ⟨_, rfl, q _ φ H .refl rs .str⟩
  · cases hf
/-! ### bools that are added to -/
def rBI (g : Int → Int → Int) : R2 := fun x y H Q => ∃ k i, x = .bl k ∧ y = .int i ∧ Q (.int (g (if k = true then 1 else 0) i)) H
theorem op_addBI : OpR X (binaryOp .Add) (rBI fun i j => i + j) := by
  intro pins s σ H x y v u Q I rx ry h
  obtain ⟨k, i, rfl, rfl, q⟩ := h
  cases rx
  obtain ⟨t, rfl⟩ := ry
  exact PySem.IntBool.add_bool_int ⟨.int _, H, I.tok _, ⟨_, rfl⟩, q⟩
theorem op_subBI : OpR X (binaryOp .Sub) (rBI fun i j => i - j) := by
  intro pins s σ H x y v u Q I rx ry h
  obtain ⟨k, i, rfl, rfl, q⟩ := h
  cases rx
  obtain ⟨t, rfl⟩ := ry
  exact PySem.IntBool.sub_bool_int ⟨.int _, H, I.tok _, ⟨_, rfl⟩, q⟩
def fBI (g : Int → Int → Int) (f : FD2) : FD2 := fun x y st => match x, y with
  | .bl k, .int i => some (.int (g (if k = true then 1 else 0) i), st)
  | x, y => f x y st
theorem opd_BI {g : Int → Int → Int} {f : FD2} {r : R2} (h : OpD X r f) : OpD X (fun x y H Q => rBI g x y H Q ∨ r x y H Q) (fBI g f) := by
  intro H φ st Q x y dx dy dz st' rs vx vy hf q
  unfold fBI at hf
  split at hf
  · cases hf; cases vx; cases vy
    exact .inl ⟨_, _, rfl, rfl, q _ φ H .refl rs .int⟩
  · exact .inr (h H φ st Q x y _ _ dz st' rs vx vy hf q)
def fAddB : FD2 := fBI (fun i j => i + j) fAdd
def fSubB : FD2 := fBI (fun i j => i - j) fSub
/-! ### dicts that nobody changes -/
theorem lay_dic {H : Hp} {φ : List Addr} {st : Sto} {a : Addr} {kws : List (Key × V)} (rs : RS X.K H φ st) (n : H a = none) : KX H φ (upd H a (.dK kws)) φ ∧ RS X.K (upd H a (.dK kws)) φ st := lay_any rs n nt_dK
def mDic0 : MM D := ret (.dic [])
theorem de_dic0 {pos : Pos} : DE X E (.Dict [] [] pos) mDic0 := pe_imp pe_dnewK fun σ H Q ⟨en, st, φ, re, rs, r, st', e, q⟩ p hp => by
  cases e
  obtain ⟨kx, rr⟩ := lay_dic (kws := []) rs hp
  exact q _ _ kx rr _ (.dic upd_same rfl .nil)
theorem upd_upd {H : Hp} {a : Addr} {o o' : HO} : upd (upd H a o) a o' = upd H a o' := by
  funext b
  by_cases e : b = a
  · subst e; rw [upd_same, upd_same]
  · rw [upd_ne e, upd_ne e, upd_ne e]
def mDic1 (k : Key) (m : MM D) : MM D := bnd m fun d => ret (.dic [(k, d)])
/-- {k: v}, both told without a step -/
theorem de_dicC {k i : Int} {j1 j2 : Nat} {p1 p2 pos : Pos} : DE X E (.Dict [some (.Constant (.int k) j1 p1)] [.Constant (.int i) j2 p2] pos) (mDic1 (.inl k) (ret (.int i))) :=
  pe_imp (pe_disp (pps_cons pe_int pe_int pps_nil) rfl rfl (by simp) (by simp)) fun σ H Q ⟨en, st, φ, re, rs, r, st', e, q⟩ p hp => by
    cases e
    refine ⟨upd_same, [(.inl k, .int i)], rfl, by simp, ?_⟩
    obtain ⟨kx, rr⟩ := lay_dic (kws := [(.inl k, .int i)]) rs hp
    have := q _ _ kx rr _ (.dic upd_same rfl (.cons .int .nil))
    rw [upd_upd]
    exact this
theorem de_dicV {k : Str} {i : Nat} {x : Str} {j1 : Nat} {p1 p2 pos : Pos} (hN : X.N[i]? = some x) (hv : Vis X.env.scope x) (hd : (x == ("__debug__" : Str)) = false) (hc : (x == ("__classdict__" : Str)) = false) :
    DE X E (.Dict [some (.Constant (.str k) j1 p1)] [.Name x p2] pos) (mDic1 (.inr k) (mVar i)) :=
  pe_imp (pe_disp (pps_cons pe_str (pe_var hN hv hd hc) pps_nil) rfl rfl (by simp) (by simp)) fun σ H Q ⟨en, st, φ, g⟩ p hp => by
    obtain ⟨d, e1, k1, r1, re, rs, r, st', e, q⟩ := (Gat.bind g).asg
    have e2 : en[i]? = some (some d) := by
      cases h : en[i]? with
      | none => rw [h] at e1; cases e1
      | some o => rw [h] at e1; exact congrArg some e1
    obtain ⟨v, h1, h2⟩ := re.get i d e2
    cases e
    refine ⟨v, h1, upd_same, [(.inr k, v)], rfl, by simp, ?_⟩
    obtain ⟨kx, rr⟩ := lay_dic (kws := [(.inr k, v)]) rs hp
    have := q _ _ kx rr _ (.dic upd_same rfl (.cons (h2.mono kx) .nil))
    rw [upd_upd]
    exact this
/-! ### repr of such a dict -/
mutual
def flatP : PyData → Bool
  | .none | .bool _ | .int _ | .str _ => true
  | .tuple xs => flatPs xs
  | .list _ | .dict _ => false
def flatPs : List PyData → Bool
  | [] => true
  | x :: xs => flatP x && flatPs xs
end
mutual
theorem reads_flat {h : Heap} : ∀ (p : PyData) (v : Value) (as : List Addr), Reads h v p as → flatP p = true → as = []
  | _, _, _, .none, _ => rfl
  | _, _, _, .bool _, _ => rfl
  | _, _, _, .int _ _, _ => rfl
  | _, _, _, .str _ _, _ => rfl
  | .tuple xs, _, as, .tuple _ _ _ r, f => readsAll_flat xs _ as r (by simpa only [flatP] using f)
  | .list _, _, _, .list _ _ _ _, f => by simp only [flatP] at f; cases f
  | .dict _, _, _, .dict _ _ _ _ _, f => by simp only [flatP] at f; cases f
theorem readsAll_flat {h : Heap} : ∀ (ps : List PyData) (vs : List Value) (as : List Addr), ReadsAll h vs ps as → flatPs ps = true → as = []
  | [], _, _, .nil, _ => rfl
  | p :: ps, _, _, .cons r t, f => by
    simp only [flatPs, Bool.and_eq_true] at f
    rw [reads_flat p _ _ r f.1, readsAll_flat ps _ _ t f.2]; rfl
end
def keyP : Key → PyData
  | .inl i => .int i
  | .inr x => .str x
def dicP (ks : List Key) (ps : List PyData) : PyData := .dict ((ks.map keyP).zip ps)
def rReprDic (K : PySem.W.Frag) : List V → Hp → VK → Prop := fun xs H Q => ∃ (a : Addr) (kws : List (Key × V)) (ps : List PyData), xs = [.ref a] ∧ H a = some (.dK kws) ∧ DpAll K H (kws.map (·.2)) ps ∧ flatPs ps = true ∧
  (dicP (kws.map (·.1)) ps).depth ≤ 64 ∧ (dicP (kws.map (·.1)) ps).showable = true ∧ (dicP (kws.map (·.1)) ps).shown.length ≤ sizeLine ∧ Q (.str (dicP (kws.map (·.1)) ps).shown) H
end
section
variable {X : Cx} {pins : List (Addr × Obj)} {σ : L2.St} {H : Hp} {s : Shared}
theorem reads_entries (I : Inv X pins σ H s) : ∀ (kws : List (Key × V)) (kvs : List (Key × Value)) (es : List DictEntry) (ps : List PyData), KV kws kvs → Pairs (mixKind X.prog X.w) es kvs → DpAll X.K H (kws.map (·.2)) ps →
    ReadsAll s.heap (es.map (·.key)) ((kws.map (·.1)).map keyP) [] ∧ ∃ as, ReadsAll s.heap (es.map (·.val)) ps as
  | [], _, _, [], .nil, .nil, .nil => ⟨.nil, [], .nil⟩
  | (k, v) :: kws, _ :: kvs, e :: es, p :: ps, .cons h t, .cons h1 h2 t2, .cons d t3 => by
    obtain ⟨a1, as, a2⟩ := reads_entries I kws kvs es ps t t2 t3
    have rk : Reads s.heap e.key (keyP k) [] := by
      have e1 := h.1
      have h1' : keyIs k e.key = true := by rw [show k = _ from e1]; exact h1
      rcases keyIs_shape h1' with ⟨i, t, e3, e4⟩ | ⟨x, t, e3, e4⟩
      · rw [e3, e4]; exact .int i t
      · rw [e3, e4]; exact .str x t
    obtain ⟨bs, rv⟩ := Dp.reads I p v e.val d (by rw [h2]; exact h.2)
    exact ⟨ReadsAll.cons (as := []) rk a1, _, .cons rv a2⟩
theorem dpAll_len {K : PySem.W.Frag} {H : Hp} : ∀ (vs : List V) (ps : List PyData), DpAll K H vs ps → vs.length = ps.length
  | [], [], .nil => rfl
  | _ :: vs, _ :: ps, .cons _ t => by rw [List.length_cons, List.length_cons, dpAll_len vs ps t]
theorem call_reprDic (hgd : X.A.guards = some []) (hu : X.A.units + 66 < cLine) : CallR X (.builtin "repr") (rReprDic X.K) := by
  intro pins s σ H xs us Q I r h
  obtain ⟨a, kws, ps, rfl, hk, hd, hf, hdp, hs, hz, q⟩ := h
  obtain ⟨u, rfl, ru⟩ := vals1 r
  cases ru
  obtain ⟨_, nm, kvs, kv, o, es, ep, ho, hx, hdat, _, prs, _⟩ := I.hok a _ hk
  obtain ⟨r1, as, r2⟩ := reads_entries I kws kvs es.toList ps kv prs hd
  have ae : as = [] := readsAll_flat ps _ _ r2 hf
  subst ae
  have ln : (kws.map (·.1)).length = ps.length := by
    have := dpAll_len _ _ hd
    simpa using this
  have z1 : ((((kws.map (·.1)).map keyP).zip ps).map (·.1)) = (kws.map (·.1)).map keyP := by
    rw [List.map_fst_zip]; rw [List.length_map]; omega
  have z2 : ((((kws.map (·.1)).map keyP).zip ps).map (·.2)) = ps := by
    rw [List.map_snd_zip]; rw [List.length_map]; omega
  have rd : Reads s.heap (.ref a) (dicP (kws.map (·.1)) ps) (a :: [] ++ []) := .dict ho hx.1 hdat (by rw [z1]; exact r1) (by rw [z2]; exact r2)
  exact repr_of_reads' rd hs (fun _ z => by simp at z; rw [z] at nm; simp at nm) hgd (by omega) (fun _ _ e => e) (fun h' t tk hk => ⟨.str _, H, I.kept hk, ⟨_, rfl⟩, q⟩) hz
end
section
variable {X : Cx} {E : XK}
def fReprA : FDB := fun ds st => match ds with
  | [.dic kvs] => (datL st 62 (kvs.map (·.2))).bind fun ps => if flatPs ps = true ∧ (dicP (kvs.map (·.1)) ps).showable = true ∧ (dicP (kvs.map (·.1)) ps).shown.length ≤ sizeLine then some (.str (dicP (kvs.map (·.1)) ps).shown, st) else none
  | ds => fRepr ds st
theorem call_reprA (hgd : X.A.guards = some []) (hu : X.A.units + 66 < cLine) : CallR X (.builtin "repr") (fun xs H Q => rReprDic X.K xs H Q ∨ rRepr X.K xs H Q) := fun pins s σ H xs us Q I r h =>
  h.elim (call_reprDic hgd hu pins s σ H xs us Q I r) (call_reprD hgd hu pins s σ H xs us Q I r)
theorem depth_zip : ∀ (ks : List Key) (ps : List PyData), PyData.depthKv ((ks.map keyP).zip ps) ≤ PyData.depthAll ps
  | [], ps => Nat.zero_le _
  | _ :: _, [] => Nat.zero_le _
  | k :: ks, p :: ps => by
    have := depth_zip ks ps
    have hk : (keyP k).depth = 0 := by cases k <;> simp [keyP, PyData.depth]
    simp only [List.map_cons, List.zip_cons_cons, PyData.depthKv, PyData.depthAll, hk]
    omega
theorem cal_reprA : CalD X (fun xs H Q => rReprDic X.K xs H Q ∨ rRepr X.K xs H Q) fReprA := by
  intro H φ st Q vs ds dz st' rs hv hf q
  unfold fReprA at hf
  split at hf
  · rename_i kvs
    cases e : datL st 62 (kvs.map (·.2)) with
    | none => rw [e] at hf; cases hf
    | some ps =>
      rw [e] at hf
      replace hf : (if flatPs ps = true ∧ (dicP (kvs.map (·.1)) ps).showable = true ∧ (dicP (kvs.map (·.1)) ps).shown.length ≤ sizeLine then some (D.str (dicP (kvs.map (·.1)) ps).shown, st) else none) = some (dz, st') := hf
      split at hf
      · rename_i c
        cases hf
        obtain ⟨v, rfl, h⟩ := hv.one
        cases h with
        | @dic a kws _ h1 h2 h3 =>
          obtain ⟨a1, a2⟩ := datL_dp rs 62 _ _ ps h3 e
          have dz := depth_zip (kvs.map (·.1)) ps
          refine .inl ⟨a, kws, ps, rfl, h1, a1, c.1, ?_, ?_, ?_, ?_⟩ <;> rw [h2]
          · unfold dicP
            simp only [PyData.depth]
            omega
          · exact c.2.1
          · exact c.2.2
          · exact q _ φ H .refl rs .str
      · cases hf
  · exact .inr (cal_repr H φ st Q vs _ dz st' rs hv hf q)
end
theorem fng_none {P : Program} {w : World} {K : PySem.W.Frag} {mg : Str → Option Value} {base : Heap} {CX : CXT} {k n : Nat} {f : Addr} {fd : FuncData} {ps : List Str} : FnG P w K mg base CX k f fd ps (spF K n fun _ _ => none) :=
  ⟨fun vs H Q E ⟨_, _, _, _, _, _, _, _, e, _⟩ => (nomatch e), fun A ou s H ar us vs Q E _ _ _ _ _ ⟨_, _, _, _, _, _, _, _, e, _⟩ => nomatch e⟩
end M2
set_option Elab.async false
set_option linter.all false
set_option maxRecDepth 100000
set_option maxHeartbeats 4000000
namespace M2
open PySem PySem.Spec PyProof.Rows L2
variable [Tb]

/-! ### classes by their names -/
section
variable {X : Cx} {E : XK}
theorem de_cln {x : Str} {pos : Pos} (hg : Gl X x) (hm : X.mg x = some (.ref (clsA X.K x))) (hd : (x == ("__debug__" : Str)) = false) : DE X E (.Name x pos) (ret (.cln x)) :=
  pe_imp (pe_glob (v := .ref (clsA X.K x)) hg hm rfl hd) fun σ H Q ⟨en, st, φ, g⟩ => g.ret _ .cln
/-- an exception that the context bears: isinstance -/
theorem call_isP {p : Addr × Obj} {D : Addr} (hp : p ∈ X.pn) (C : ExcC X.K D) (hz : Zc (.ref D) none p.2) (hf : ∃ vs, p.2.data = .fields vs) : CallR X (.builtin "isinstance") (rIsE X.K D p.1) := by
  rintro pins s σ H xs us Q I r ⟨c, cv, b, rfl, hcv, e, q⟩
  obtain ⟨u1, u2, rfl, r1, r2⟩ := r.two
  cases r1
  obtain rfl := hcv _ r2
  have P1 := I.pin p (List.mem_append.mpr (.inl hp))
  have J : PySem.W.InstAt s.heap p.1 p.2 D none := by
    obtain ⟨pa, oc, od, oda, osl⟩ := p
    obtain ⟨vs, hv⟩ := hf
    obtain ⟨y1, y2⟩ := hz
    dsimp only at y1 y2 hv
    subst y1 y2 hv
    exact ⟨P1.1, rfl, rfl, trivial⟩
  exact PySem.W.kia_one (PySem.W.handS_kitx_exc C.hg C.hk C.hs C.hd C.ha C.hn C.ht C.hm) I.kIn J e (fun z => nomatch z) fun t => ⟨.bl b, H, I.kept (t' := t) fun _ _ z => z, rfl, q⟩
end
def clsNames : List Str := ["NoMachine", "NoArities", "NoTree", "Unspelled", "NoOperator", "NoPrices", "NoStates", "NoForm", "NoCover", "NoNumber", "NoNumbers", "NoPrice", "ManyForms", "Endless", "OtherArities", "NoContext", "NoNodes", "NoArguments", "NothingRead", "NothingDone", "NoPlace", "NoText", "BadLine", "TooMany"]
/-- what an instance of the class n is -/
def isaX (n m : Str) : Bool := m == n
def fIsX (a : Addr) (n : Str) : FDB := fun ds st => match ds with
  | [.cls b, .cln m] => if b = a ∧ clsNames.contains m = true then some (.bl (isaX n m), st) else none
  | [.cls b, .ty t] => if b = a ∧ t = "ValueError" then some (.bl true, st) else none
  | _ => none
def excB (K : PySem.W.Frag) (D : Addr) : Bool :=
  decide (PySem.W.findIn K (.ref D) "__getattribute__" = some (some (.builtin "BaseException.__getattribute__"))) && (decide (PySem.W.findIn K (.ref D) "__getattr__" = some none) && (decide (PySem.W.subIn K (.ref D) (.type "BaseException") = some true) && (PySem.W.hasDictIn K D &&
  (decide (PySem.W.findIn K (.ref D) "__class__" = some (some (.builtin "object.__class__"))) && (decide (PySem.W.specialIn K (.builtin "object.__class__") "__get__" = some (some (.builtin "getset_descriptor.__get__"))) && (decide (PySem.W.takesIn K (.builtin "object.__class__") = some true) &&
  decide (PySem.W.mroIn K D (.type "object") = some true)))))))
theorem excB_ok {K : PySem.W.Frag} {D : Addr} (h : excB K D = true) : ExcC K D := by
  simp only [excB, Bool.and_eq_true, decide_eq_true_eq] at h
  obtain ⟨h1, h2, h3, h4, h5, h6, h7, h8⟩ := h
  exact ⟨h1, h2, h3, h4, h5, h6, h7, h8⟩
/-- what the module says of a class whose instances are raised and told -/
def kndB (K : PySem.W.Frag) (n : Str) : Bool :=
  excB K (clsA K n) && (clsNames.all (fun m => decide (PySem.W.kitOne K (.ref (clsA K n)) (.ref (clsA K m)) = some (isaX n m))) && (decide (PySem.W.kitOne K (.ref (clsA K n)) (.type "ValueError") = some true) &&
  (decide (PySem.W.exmOne K (.ref (clsA K n)) (.ref (clsA K "PickError")) = some true) && (PySem.W.excIn K (clsA K n) [.type "ValueError", .type "Exception", .type "BaseException", .type "object"] "ValueError.__new__" && (PySem.W.keepIn K (.ref (clsA K n)) &&
  (decide (PySem.W.subIn K (.ref (clsA K n)) (.type "BaseException") = some true) && (decide (PySem.W.typeIn K (.ref (clsA K n)) = some (.type "type")) &&
  decide (PySem.W.nsIn K mainGlobals n = some (some (.ref (clsA K n)))))))))))
structure Knd (K : PySem.W.Frag) (n : Str) : Prop where
  e : ExcC K (clsA K n)
  k : ∀ m, clsNames.contains m = true → PySem.W.kitOne K (.ref (clsA K n)) (.ref (clsA K m)) = some (isaX n m)
  v : PySem.W.kitOne K (.ref (clsA K n)) (.type "ValueError") = some true
  p : PySem.W.exmOne K (.ref (clsA K n)) (.ref (clsA K "PickError")) = some true
  q : PySem.W.excIn K (clsA K n) [.type "ValueError", .type "Exception", .type "BaseException", .type "object"] "ValueError.__new__" = true
  kp : PySem.W.keepIn K (.ref (clsA K n)) = true
  b : PySem.W.subIn K (.ref (clsA K n)) (.type "BaseException") = some true
  t : PySem.W.typeIn K (.ref (clsA K n)) = some (.type "type")
  g : PySem.W.nsIn K mainGlobals n = some (some (.ref (clsA K n)))
theorem knd_of {K : PySem.W.Frag} {n : Str} (h : kndB K n = true) : Knd K n := by
  simp only [kndB, Bool.and_eq_true, decide_eq_true_eq] at h
  obtain ⟨h1, h2, h3, h4, h5, h6, h7, h8, h9⟩ := h
  exact ⟨excB_ok h1, fun m hm => of_decide_eq_true (List.all_eq_true.mp h2 m (List.contains_iff_mem.mp hm)), h3, h4, h5, h6, h7, h8, h9⟩
section
variable {X : Cx} {E : XK}
theorem cal_isX {a : Addr} {n : Str} (I : Knd X.K n) : CalD X (rIsE X.K (clsA X.K n) a) (fIsX a n) := by
  intro H φ st Q vs ds dz st' rs hv hf q
  unfold fIsX at hf
  split at hf
  · rename_i b m
    split at hf
    · rename_i c
      cases hf
      obtain ⟨v, u, rfl, h1, h2⟩ := hv.two
      cases h1; cases h2
      obtain ⟨rfl, c2⟩ := c
      exact ⟨_, .ref (clsA X.K m), _, rfl, fun u hu => hu, I.k m c2, q _ φ H .refl rs .bl⟩
    · cases hf
  · rename_i b t
    split at hf
    · rename_i c
      cases hf
      obtain ⟨v, u, rfl, h1, h2⟩ := hv.two
      cases h1; cases h2
      obtain ⟨rfl, rfl⟩ := c
      exact ⟨_, .type "ValueError", _, rfl, fun u hu => hu, I.v, q _ φ H .refl rs .bl⟩
    · cases hf
  · cases hf
/-! ### list.count, list.index of truths -/
def rCntF (K : PySem.W.Frag) : V → List V → Hp → VK → Prop := fun x xs H Q => ∃ (p : Addr) (bs : List Bool) (b : Bool), x = .ref p ∧ xs = [.bl b] ∧ SqL K H p (bs.map V.bl) ∧ Q (.int (bs.count b : Nat)) H
theorem cnt_bls {b : Bool} : ∀ {bs : List Bool} {us : List Value}, Vals (bs.map V.bl) us → us.countP (eqU (.bl b)) = bs.count b
  | [], _, .nil => rfl
  | c :: bs, u :: us, .cons r t => by
    have e : eqU (.bl b) u = (c == b) := eqU_of r rfl
    rw [List.countP_cons, cnt_bls t, List.count_cons, e]
theorem flat_bls : ∀ (bs : List Bool), (bs.map V.bl).all flatV = true
  | [] => rfl
  | _ :: bs => flat_bls bs
theorem mt_countB : MtR X "list.count" (rCntF X.K) := by
  rintro pins s σ H x xs v us Q I rx rxs ⟨p, bs, b, rfl, rfl, hs, q⟩
  cases rx
  obtain ⟨uy, rfl, ry⟩ := rxs.one
  obtain ⟨its, rv, ⟨⟨cls, dd, data, sl⟩, n, ho, hc, hdn, hd⟩, hlen⟩ := I.list hs
  dsimp only at hc hd
  subst hc hd
  refine call_meets PySem.F.slot_list_count ⟨_, ho, rfl⟩ PySem.F.entry_list_count (PySem.F.args_list_count_2 _ _) (SeqAt.list_countAt p its.toArray n dd sl uy (eqU (.bl b)))
    ⟨ho, fun y hy => mem_eqAt ry rfl rv (flat_bls bs) y (by simpa using hy), ?_⟩
  refine ⟨.int (bs.count b : Nat), H, I.tok _, ⟨s.toks, ?_⟩, q⟩
  have e : its.toArray.toList.countP (eqU (.bl b)) = bs.count b := cnt_bls rv
  rw [e]
def ixB (b : Bool) : List Bool → Option Nat
  | [] => none
  | c :: r => if c = b then some 0 else (ixB b r).map (· + 1)
theorem ixB_some {b : Bool} : ∀ {bs : List Bool} {j : Nat}, ixB b bs = some j → bs[j]? = some b ∧ ∀ m c, m < j → bs[m]? = some c → (c == b) = false
  | [], _, h => by cases h
  | c :: r, j, h => by
    unfold ixB at h
    split at h
    · rename_i e
      cases h
      exact ⟨by rw [e]; rfl, fun m c h _ => absurd h (Nat.not_lt_zero _)⟩
    · rename_i ne
      cases z : ixB b r with
      | none => rw [z] at h; cases h
      | some k =>
        rw [z] at h; cases h
        obtain ⟨h1, h2⟩ := ixB_some z
        refine ⟨h1, fun m d hm hd => ?_⟩
        cases m with
        | zero => cases hd; exact beq_eq_false_iff_ne.mpr ne
        | succ m => exact h2 m d (Nat.lt_of_succ_lt_succ hm) (by simpa using hd)
def onBls (f : List Bool → Bool → Option Nat) (l : Nat) : List D → Sto → Option (D × Sto) := fun ds st => match ds with
  | [.bl b] => ((st[l]?).bind blsD).bind fun bs => (f bs b).map fun i => (.int (i : Nat), st)
  | _ => none
def mMt (f : Nat → List D → Sto → Option (D × Sto)) (ml mv : MM D) : MM D := bnd ml fun d => bnd (lft (locD d)) fun l => bnd (mArgs [mv]) fun vs => stm (f l vs)
theorem onBls_some {f : List Bool → Bool → Option Nat} {l : Nat} {ds : List D} {st st' : Sto} {dz : D} (h : onBls f l ds st = some (dz, st')) : ∃ b bs i, ds = [.bl b] ∧ st[l]? = some (bs.map D.bl) ∧ f bs b = some i ∧ dz = .int (i : Nat) ∧ st' = st := by
  unfold onBls at h
  split at h
  · rename_i b
    cases e : st[l]? with
    | none => rw [e] at h; cases h
    | some xs =>
      rw [e] at h
      replace h : (blsD xs).bind (fun bs => (f bs b).map fun i => (D.int (i : Nat), st)) = some (dz, st') := h
      cases e2 : blsD xs with
      | none => rw [e2] at h; cases h
      | some bs =>
        rw [e2] at h
        replace h : (f bs b).map (fun i => (D.int (i : Nat), st)) = some (dz, st') := h
        cases e3 : f bs b with
        | none => rw [e3] at h; cases h
        | some i =>
          rw [e3] at h; cases h
          exact ⟨b, bs, i, rfl, by rw [blsD_eq e2], e3, rfl, rfl⟩
  · cases h
def fCntB : Nat → List D → Sto → Option (D × Sto) := onBls fun bs b => some (bs.count b)
def fIdxB : Nat → List D → Sto → Option (D × Sto) := onBls fun bs b => ixB b bs
theorem de_mtB {o e : Expr} {mo mv : MM D} {name : Str} {r : V → List V → Hp → VK → Prop} {f : List Bool → Bool → Option Nat} {apos cpos : Pos} (ho : DE X E o mo) (ha : DA X E [e] (mArgs [mv]))
    (hpe : ∀ {to : TE} {t : TA}, PE X o to → PA X [e] t → PE X (.Call (.Attribute o name apos) [e] [] cpos) (tBM X.K "list" r to t))
    (hr : ∀ (p : Addr) (bs : List Bool) (b : Bool) (i : Nat) (H : Hp) (Q : VK), SqL X.K H p (bs.map V.bl) → f bs b = some i → Q (.int (i : Nat)) H → r (.ref p) [.bl b] H Q) :
    DE X E (.Call (.Attribute o name apos) [e] [] cpos) (mMt (onBls f) mo mv) :=
  pe_imp (hpe ho ha) fun σ H Q ⟨en, st, φ, g⟩ => ⟨en, st, φ, g.bind.imp fun st1 dl φ1 H1 _ _ ⟨k1, r1, g1⟩ x hx => by
    obtain ⟨l, el, _, _, g2⟩ := g1.bind.lft
    rw [locD_some el] at hx
    obtain ⟨p, rfl, hp⟩ := hx.mutI
    have hl : l < st1.length := by rw [← r1.len]; exact (List.getElem?_eq_some_iff.mp hp.at').1
    obtain ⟨ws, gw, _⟩ := r1.get l p st1[l] hp (List.getElem?_eq_getElem hl)
    refine ⟨.inl ⟨rfl, ws, .of gw⟩, en, st1, φ1, g2.bind.imp fun st3 vs φ3 H3 _ _ ⟨k3, r3, g5⟩ us hu => ?_⟩
    obtain ⟨z, st4, e4, q4⟩ := g5.stm
    obtain ⟨b, bs, i, rfl, e5, e6, rfl, rfl⟩ := onBls_some e4
    obtain ⟨v, rfl, hv⟩ := hu.one
    cases hv
    obtain ⟨ws3, gw3, vd3⟩ := r3.get l p _ (k3.muAt hp) e5
    rw [vd3.bls] at gw3
    exact hr p bs b i H3 Q (.of gw3) e6 (q4 _ _ .refl r3 _ .int)⟩
theorem hr_cnt : ∀ (p : Addr) (bs : List Bool) (b : Bool) (i : Nat) (H : Hp) (Q : VK), SqL X.K H p (bs.map V.bl) → (fun (bs : List Bool) b => some (bs.count b)) bs b = some i → Q (.int (i : Nat)) H → rCntF X.K (.ref p) [.bl b] H Q := fun p bs b i H Q hs e q => by
  cases e
  exact ⟨p, bs, b, rfl, rfl, hs, q⟩
theorem hr_idx : ∀ (p : Addr) (bs : List Bool) (b : Bool) (i : Nat) (H : Hp) (Q : VK), SqL X.K H p (bs.map V.bl) → (fun (bs : List Bool) b => ixB b bs) bs b = some i → Q (.int (i : Nat)) H → rIndex X.K (.ref p) [.bl b] H Q := fun p bs b i H Q hs e q => by
  obtain ⟨h1, h2⟩ := ixB_some e
  refine ⟨p, bs.map V.bl, .bl b, i, .bl b, rfl, rfl, hs, rfl, flat_bls bs, by rw [List.getElem?_map, h1]; rfl, by show (b == b) = true; exact beq_self_eq_true b, fun m z hm hz => ?_, q⟩
  rw [List.getElem?_map] at hz
  cases e3 : bs[m]? with
  | none => rw [e3] at hz; cases hz
  | some c =>
    rw [e3] at hz; cases hz
    exact h2 m c hm e3
theorem de_cntB {o e : Expr} {mo mv : MM D} {apos cpos : Pos} (ho : DE X E o mo) (ha : DA X E [e] (mArgs [mv]))
    (hpe : ∀ {to : TE} {t : TA}, PE X o to → PA X [e] t → PE X (.Call (.Attribute o "count" apos) [e] [] cpos) (tBM X.K "list" (rCntF X.K) to t)) : DE X E (.Call (.Attribute o "count" apos) [e] [] cpos) (mMt fCntB mo mv) := de_mtB ho ha hpe hr_cnt
theorem de_idxB {o e : Expr} {mo mv : MM D} {apos cpos : Pos} (ho : DE X E o mo) (ha : DA X E [e] (mArgs [mv]))
    (hpe : ∀ {to : TE} {t : TA}, PE X o to → PA X [e] t → PE X (.Call (.Attribute o "index" apos) [e] [] cpos) (tBM X.K "list" (rIndex X.K) to t)) : DE X E (.Call (.Attribute o "index" apos) [e] [] cpos) (mMt fIdxB mo mv) := de_mtB ho ha hpe hr_idx
end
end M2
set_option Elab.async false
set_option linter.all false
set_option maxRecDepth 100000
set_option maxHeartbeats 4000000
namespace M2
open PySem PySem.Spec PyProof.Rows L2
variable [Tb]
abbrev noE : XK := fun _ _ _ => False

/-! ### a def that is called while an exception is handled, which it gets -/
structure FnK (P : Program) (w : World) (K : PySem.W.Frag) (mg : Str → Option Value) (base : Heap) (k : Nat) (f : Addr) (fd : FuncData) (ps : List Str) (sp : Addr × Obj → Sp) : Prop where
  run : ∀ (A : Around) (ou : List Env) (s : Shared) (H : Hp) (us : List Value) (vs : List V) (Q : VK) (p : Addr × Obj), A.guards = some [] → L2H.RoomH k A → L2H.PinOk ou H s p → Env0 P w K mg base A ou s H →
    BindsTo s fd ⟨us, []⟩ (ps.zip us) → Vals vs us → vs.length = ps.length → sp p vs H Q noE → codeAny (model P w) A (.call (.ref f) ⟨us, []⟩) (CR (L2.CX P w) ou P w H s Q noE) s
section
variable {P : Program} {w : World} {K : PySem.W.Frag} {mg : Str → Option Value} {base : Heap}
theorem fnk_of {k : Nat} {f : Addr} {x q : Str} {st : Stmt} {fd : FuncData} {N ps : List Str} {sp : Addr × Obj → Sp} (F : Fun K x q st f fd) (S : FnScope N ps (defScope st))
    (body : ∀ (cd : Value) (A : Around) (ou : List Env) (s : Shared) (H : Hp) (vs : List V) (Q : VK) (p : Addr × Obj), A.guards = some [] → L2H.RoomH k (A.deeper (envOfC q (defScope st) s.heap.objs.size f cd)) → sp p vs H Q noE →
      ∃ t, PSs (L2H.cxH (L2.CX P w) P w K mg base N q (defScope st) f cd A ou s H noE p) (defBody st) t ∧ t { nx := fun _ H' => Q .non H', rt := Q } (start N vs) H) :
    FnK P w K mg base (k + 1) f fd ps sp := by
  obtain ⟨oc, od, kV, dc, pm, an, cdv, ct, osl, rfl, lk, hcd⟩ := F.ex
  refine ⟨fun A ou s H us vs Q p hgd room hpin en0 bnds rel hl want => ?_⟩
  have inK : K.In s.heap := en0.mod.kin.keeps fun b o e => (en0.bs b o e).1
  have nolim : s.heap.NoLimit := en0.mod.nolimit.keeps fun b o e => (en0.bs b o e).1
  obtain ⟨t, tPs, tQ⟩ := body cdv A ou s H vs Q p hgd (room.deeper _) want
  have cellP : ∀ y ∈ ps.zip us, (defScope st).names.lookup y.1 = some .local ∨
      ((defScope st).names.lookup y.1 = some .cell ∧ ((cellsFrom (s.heap.objs.size + 1) (defScope st).names []).lookup y.1).isSome = true) := by
    rintro ⟨n, v⟩ hy
    exact (S.par n (List.of_mem_zip hy).1).imp id fun z => ⟨z, PySem.W.cellsFrom_some _ _ _ (.inl z)⟩
  have ends : ∀ {τ : L2.St} {H2 : Hp} {v : V} {u : Value} {s2 : Shared}, Inv (L2H.cxH (L2.CX P w) P w K mg base N q (defScope st) f cdv A ou s H noE p) [] τ H2 s2 → RelV v u → Q v H2 → CE ou P w H s Q u s2 :=
    fun J rv qv => ⟨_, _, J.os, J.bare, J.base, J.hok, rv, qv⟩
  refine codeAny_call_function room.depth (inK _ _ lk) rfl S.co S.gen rfl (PySem.W.codeRec_of inK hcd) (bnds _ _ _ _ (wpAny_newFunctionEnv_cells S.kind cellP fun env he s1 made => ?_))
  subst he
  refine ⟨nolim.keeps made.toInCall.keep, codeAny_func ?_⟩
  have I0 := L2H.inv_startH (CX := L2.CX P w) (E := noE) S hpin en0 hl rel made
  refine wpAny_mono (tPs.run [] s1 (start N vs) H _ I0 tQ) (fun fl s2 z => ?_) fun _ _ z => z
  match fl, z with
  | .ret u, ⟨v, τ, H2, J, rv, qv⟩ => exact ends J rv qv
  | .next, ⟨τ, H2, J, qv⟩ => exact ends (v := V.non) (u := Value.none) J rfl qv
  | .brk, ⟨_, _, _, qv⟩ => exact qv.elim
  | .cont, ⟨_, _, _, qv⟩ => exact qv.elim
end
section
variable {X : Cx} {k : Nat} {f : Addr} {fd : FuncData} {ps : List Str} {sp : Addr × Obj → Sp} {x : Str} {p : Addr × Obj} {q pos : Pos} {e : Expr} {es : List Expr} {t : TA}
theorem pe_callX (hp : p ∈ X.pn) (F : FnK X.prog X.w X.K X.mg X.base k f fd ps sp) (hgd : X.A.guards = some []) (hr : L2H.RoomH k X.A) (hg : Gl X x) (hm : X.mg x = some (.ref f)) (hk : PySem.W.keepIn X.K (.ref f) = true) (hb : Binds X.K fd ps [])
    (ha : PA X (e :: es) t) (hdb : (x == ("__debug__" : Str)) = false) (he : starEach (e :: es) X.env = (false, eval e X.env) :: starEach es X.env) (hpl : (backTo pos (starEach es X.env)).any (·.1) = false) :
    PE X (.Call (.Name x q) (e :: es) [] pos) (fun σ H Q => t σ H fun vs H1 => vs.length = ps.length ∧ sp p vs H1 Q noE) := by
  refine ⟨fun pins s σ H Q I h => wpAny_Call_Name_kw (ld_glob I hg hm (PySem.W.callWith_K (h₀ := X.base) I.ok.mod.kin hk ?_ he hpl) hdb)⟩
  refine thn (ha.run pos pins s σ H _ I h) fun us s1 ⟨vs, H1, I1, r, hl, q⟩ => ⟨I1.kIn, ?_⟩
  have z := I1.pin p (List.mem_append_left _ hp)
  have pk : L2H.PinOk X.stack H1 s1 p := ⟨z.1, z.2.1, fun hin => ?_, z.2.2.2.2⟩
  · have bz := hb s1 us I1.kIn (by rw [List.append_nil, ← r.length]; exact hl)
    rw [List.append_nil] at bz
    refine wpAny_call (codeAny_mono (F.run X.A X.stack s1 H1 us vs Q p hgd hr pk I1.env0 bz r hl q) fun res s2 y => ?_)
    match res, y with
    | .error er, ⟨_, _, _, _, _, _, _, _, _, _, _, _, no⟩ => exact no.elim
    | .ok (.ret u), y => exact I1.after y
  · rcases List.mem_cons.mp (I1.stkSub p.1 hin) with y | y
    · exact z.2.2.1 y
    · exact z.2.2.2.1 y
end
/-- all but the tables of code objects stands -/
def HKp (H H' : Hp) : Prop := ∀ b o, H b = some o → NT o → H' b = some o
theorem HKp.kx {H H' : Hp} (h : HKp H H') (φ : List Addr) : KX H φ H' φ := ⟨⟨[], by simp, fun _ m => nomatch m⟩, fun b o e n _ => h b o e n, fun b o e n _ => h b o e n, fun b o e n => ⟨o, h b o e n, n⟩, fun b ⟨vs, e⟩ => ⟨vs, h b _ e nt_lst⟩, fun b ⟨vs, e⟩ => ⟨vs, h b _ e nt_dT⟩, fun b C ⟨dx, vs, e⟩ => ⟨dx, vs, h b _ e nt_ins⟩⟩
theorem HKp.of {H H' : Hp} {φ' : List Addr} (k : KX H [] H' φ') : HKp H H' := fun b o e n => k.keep b o e n List.not_mem_nil
theorem RS.kp {K : PySem.W.Frag} {H H' : Hp} {φ : List Addr} {st : Sto} (r : RS K H φ st) (k : HKp H H') (t : LamX.Tabs Tb.T H') : RS K H' φ st := ⟨r.len, r.nd, fun l a ds e1 e2 => by
  cases r.row l a ds e1 e2 with
  | lst g1 g2 => exact .lst (k _ _ g1 nt_lst) (g2.mono (k.kx φ))
  | dct g1 g2 => exact .dct (k _ _ g1 nt_dT) g2
  | ins g1 g2 g3 g4 => exact .ins (k _ _ g1 nt_ins) g2 (g3.mono (k.kx φ)) g4, t⟩
/-- the word for a class -/
def spK (K : PySem.W.Frag) (kw : List (Str × Str)) : Addr × Obj → Sp := fun p vs H Q _ => ∃ n wd, (n, wd) ∈ kw ∧ Zc (.ref (clsA K n)) none p.2 ∧ (∃ us, p.2.data = .fields us) ∧ vs = [.ref p.1] ∧ LamX.Tabs Tb.T H ∧ ∀ H', HKp H H' → LamX.Tabs Tb.T H' → Q (.str wd) H'
theorem rs_nil {K : PySem.W.Frag} {H : Hp} (t : LamX.Tabs Tb.T H) : RS K H [] [] := ⟨rfl, List.nodup_nil, fun l a ds h => by simp at h, t⟩
theorem fnk_kind {P : Program} {w : World} {K : PySem.W.Frag} {mg : Str → Option Value} {base : Heap} {k : Nat} {f : Addr} {x q px : Str} {st : Stmt} {fd : FuncData} {N : List Str} {kw : List (Str × Str)} (bk : Addr → Str → MS) (F : Fun K x q st f fd) (S : FnScope N [px] (defScope st))
    (ev : ∀ n wd, (n, wd) ∈ kw → ∀ a, ∃ st', runF N.length (bk a n) [.cls a] [] = some (.ok (.str wd), st'))
    (body : ∀ n wd, (n, wd) ∈ kw → ∀ (cd : Value) (A : Around) (ou : List Env) (s : Shared) (H : Hp) (p : Addr × Obj), A.guards = some [] → L2H.RoomH k (A.deeper (envOfC q (defScope st) s.heap.objs.size f cd)) → Zc (.ref (clsA K n)) none p.2 → (∃ us, p.2.data = .fields us) →
      DSs (L2H.cxH (L2.CX P w) P w K mg base N q (defScope st) f cd A ou s H noE p) noE (defBody st) (bk p.1 n)) :
    FnK P w K mg base (k + 1) f fd [px] (spK K kw) := by
  refine fnk_of F S fun cd A ou s H vs Q p hgd hr want => ?_
  obtain ⟨n, wd, hn, hz, hf, rfl, ht, q⟩ := want
  refine ⟨_, body n wd hn cd A ou s H p hgd hr hz hf, ?_⟩
  obtain ⟨st', e⟩ := ev n wd hn p.1
  have e' := e
  unfold runF at e
  cases hm : bk p.1 n (envOf N.length [.cls p.1]) [] with
  | none => rw [hm] at e; cases e
  | some r =>
    obtain ⟨c, en', st2⟩ := r
    rw [hm] at e
    refine ⟨_, [], [], re_start (.cons .cls .nil), rs_nil ht, c, en', st2, hm, fun φ' H' kx rs' => ?_⟩
    cases c with
    | nx => cases e
    | rt d => cases e; exact fun v vd => by cases vd; exact q H' (.of kx) rs'.tabs
    | er c => cases e
end M2
set_option Elab.async false
set_option linter.all false
set_option maxRecDepth 100000
set_option maxHeartbeats 4000000
namespace M2
open PySem PySem.Spec PyProof.Rows L2
variable [Tb]

section
variable {X : Cx} {pins : List (Addr × Obj)} {σ : L2.St} {H : Hp} {s : Shared}
/-- the call of a lambda by the def that got it; E: what that def wishes of what is raised, with its slots as they are -/
theorem act_lam {CXg : CXT} {Eg : XK} {Ng : List Str} {qg : Str} {sg : Scope} {g f c' : Addr} {cdg pm ctv : Value} {params : Arguments} {lb : Expr} {scope : Scope} {k i : Nat} {a : Str} {pn : List (Addr × Obj)} {xe : Value → Shared → Prop} {W : WX} {tb : XK → TE} {p1 p2 : Pos}
    (I : Inv X pins σ H s) (L : LamX.LamS X.env.scope scope) (isF : s.heap.get? f = some (PySem.W.kla_obj "<lambda>" (X.env.qual ++ "<lambda>") params lb scope (cloFrom X.env.cells scope.names []) pm c' ctv)) (nF : H f = none) (noFr : f ∉ frs X.stack)
    (bnd0 : bindArgs (PySem.W.kla_fn "<lambda>" (X.env.qual ++ "<lambda>") params lb scope (cloFrom X.env.cells scope.names []) pm (.ref c') ctv) ⟨[], []⟩ = pure [])
    (tk : Takes ((cxOf CXg X.prog X.w X.K X.mg X.base Ng qg sg g cdg X.A X.stack s H Eg).tr pn xe) W) (gd : X.A.guards = some []) (room : Room (k + 1) (X.A.deeper (envOfC qg sg s.heap.objs.size g cdg)))
    (says : ∀ (A : Around) (ou : List Env) (s : Shared) (H : Hp) (E : XK), A.guards = some [] → Room k (A.deeper (LamX.lamEnv X scope s.heap.objs.size f c')) → PE (LamX.lamCx X A ou s H E scope f c') lb (tb E))
    (hN : Ng[i]? = some a) (hv : Vis sg a) (d1 : (a == ("__debug__" : Str)) = false) (d2 : (a == ("__classdict__" : Str)) = false) :
    PE ((cxOf CXg X.prog X.w X.K X.mg X.base Ng qg sg g cdg X.A X.stack s H Eg).tr pn xe) (.Call (.Name a p1) [] [] p2)
      (fun σ1 H1 Q => σ1[i]? = some (some (.ref f)) ∧ H1 c' = some (LamX.CodeO c' (X.env.qual ++ "<lambda>")) ∧ tb (fun cls d H' => W cls d σ1 H') σ H1 Q) := by
  refine ⟨fun pins1 s1 σ1 H1 Q I1 ⟨w1, w2, w3⟩ => wpAny_Call_Name_kw (thn ((pe_var (pos := p1) (i := i) hN hv d1 d2).run pins1 s1 σ1 H1 (fun v H2 => v = .ref f ∧ H2 = H1) I1 ⟨.ref f, w1, rfl, rfl⟩) fun u s2 ⟨v, H2, I2, rel, e1, e2⟩ => ?_)⟩
  subst e1 e2
  cases rel
  have here : s2.heap.get? f = some (PySem.W.kla_obj "<lambda>" (X.env.qual ++ "<lambda>") params lb scope (cloFrom X.env.cells scope.names []) pm c' ctv) := I2.base.keep f _ isF nF noFr List.not_mem_nil
  refine PySem.W.callWith_F0 ⟨_, _, _, _, here⟩ (wpAny_call (codeAny_mono (R := CR (L2.CX X.prog X.w) (envOfC qg sg s.heap.objs.size g cdg :: X.stack) X.prog X.w H2 s2 Q (fun cls d H' => W cls d σ1 H')) ?_ fun r s3 z => ?_))
  · obtain ⟨⟨oc, vs, t, y1, y2, y3⟩, _, _⟩ := I2.hok c' _ w2
    refine PySem.W.kla_callFunE room.depth here rfl L.co L.gen rfl ⟨c', oc, vs, t, rfl, y1, y2, y3⟩ ?_
    show wpAny _ _ (bindArgs (PySem.W.kla_fn "<lambda>" (X.env.qual ++ "<lambda>") params lb scope (cloFrom X.env.cells scope.names []) pm (.ref c') ctv) ⟨[], []⟩) _ _ _
    rw [bnd0]
    refine wpAny_pure (wpAny_newFunctionEnv (fun y hy => (L.own y hy).2) (fun y hy => absurd hy (by simp)) (fun h₁ hns hsb => ⟨I2.nolimit.fresh _ hsb, ?_⟩) L.kind)
    have kp : ∀ b o, s2.heap.get? b = some o → h₁.get? b = some o := fun b o e => hsb.extBut b o (Nat.ne_of_lt (Heap.lt_size e)) (Heap.get?_push_of_some _ e)
    have J := LamX.lam_start2 (A := X.A.deeper (envOfC qg sg s.heap.objs.size g cdg)) (outer := envOfC qg sg s.heap.objs.size g cdg :: X.stack) (E := fun cls d H' => W cls d σ1 H') (f := f) (c' := c') (tk := s2.toks + ([] : List (Str × Value)).length) I L I2.env0 room.hd I2.base hns kp
    refine PySem.W.kla_codeExpr (wpAny_mono ((says (X.A.deeper (envOfC qg sg s.heap.objs.size g cdg)) (envOfC qg sg s.heap.objs.size g cdg :: X.stack) s2 H2 (fun cls d H' => W cls d σ1 H') gd (room.deeper _)).run [] _ _ H2 Q J w3) (fun v s' ⟨v1, H3, J3, rv, q3⟩ => ?_) fun e s' hq => hq)
    exact ⟨v1, H3, J3.os, J3.bare, J3.base, J3.hok, rv, q3⟩
  · match r, z with
    | .error e, z => exact passAt tk σ1 pins1 H2 s2 e s3 I2 z
    | .ok (.ret u), z => exact I2.after z
end
end M2
set_option Elab.async false
set_option linter.all false
set_option maxRecDepth 100000
set_option maxHeartbeats 1000000
namespace M2
open PySem PySem.Spec PyProof.Rows L2
open Classical
variable [Tb]
/-! ### running mirrors: each one at an environment and a store -/
theorem kit_ii : kitB "int" "int" = some true := by decide +kernel
theorem kit_ib : kitB "int" "bool" = some false := by decide +kernel
theorem kit_tt : kitB "tuple" "tuple" = some true := by decide +kernel
section
variable {α β : Type} {en : En} {st st1 : Sto}
@[simp] theorem u_bnd (m : MM α) (k : α → MM β) : bnd m k en st = match m en st with
  | none => none
  | some (.error c, st1) => some (.error c, st1)
  | some (.ok a, st1) => k a en st1 := rfl
@[simp] theorem u_ret (a : α) : ret a en st = some (.ok a, st) := rfl
@[simp] theorem u_lft (o : Option α) : lft o en st = o.map fun a => (.ok a, st) := rfl
@[simp] theorem u_stm (f : Sto → Option (α × Sto)) : stm f en st = (f st).map fun p => (.ok p.1, p.2) := rfl
@[simp] theorem u_asg (f : En → Sto → Option α) : asg f en st = (f en st).map fun a => (.ok a, st) := rfl
@[simp] theorem u_mVar (i : Nat) : mVar i en st = ((en[i]?).join).map fun a => (.ok a, st) := rfl
@[simp] theorem u_sNx : sNx en st = some (.nx, en, st) := rfl
@[simp] theorem u_sSeq (a b : MS) : sSeq a b en st = match a en st with
  | some (.nx, en1, st1) => b en1 st1
  | o => o := rfl
@[simp] theorem u_sEx (m : MM α) (k : α → MS) : sEx m k en st = match m en st with
  | none => none
  | some (.error c, st1) => some (.er c, en, st1)
  | some (.ok a, st1) => k a en st1 := rfl
@[simp] theorem u_runF (n : Nat) (m : MS) (ds : List D) : runF n m ds st = match m (envOf n ds) st with
  | some (.nx, _, st') => some (.ok .non, st')
  | some (.rt d, _, st') => some (.ok d, st')
  | some (.er c, _, st') => some (.error c, st')
  | none => none := rfl
@[simp] theorem u_mArgs0 : mArgs [] en st = (ret []) en st := rfl
@[simp] theorem u_mArgs1 (m : MM D) (ms : List (MM D)) : mArgs (m :: ms) en st = (bnd m fun d => bnd (mArgs ms) fun ds => ret (d :: ds)) en st := rfl
@[simp] theorem u_mCall (n : Nat) (F : FD) (m : MM (List D)) : mCall n F m en st = (bnd m fun ds => fun _ st => if ds.length = n then F ds st else none) en st := rfl
@[simp] theorem u_mBlt (f : FDB) (m : MM (List D)) : mBlt f m en st = (bnd m fun ds => stm (f ds)) en st := rfl
@[simp] theorem u_mOp (f : FD2) (a b : MM D) : mOp f a b en st = (bnd a fun x => bnd b fun y => stm (f x y)) en st := rfl
@[simp] theorem u_mB (m : MM D) : mB m en st = (bnd m fun d => lft (boolD d)) en st := rfl
@[simp] theorem u_mTru (m : MM D) : mTru m en st = (bnd m fun d => asg fun _ st => truD d st) en st := rfl
@[simp] theorem u_boolD (b : Bool) : boolD (.bl b) = some b := rfl
@[simp] theorem u_truB (b : Bool) : truD (.bl b) st = some b := rfl
@[simp] theorem u_mAnd (a b : MM Bool) : mAnd a b en st = (bnd a fun c => if c = true then b else ret false) en st := rfl
@[simp] theorem u_mOr (a b : MM Bool) : mOr a b en st = (bnd a fun c => if c = true then ret true else b) en st := rfl
@[simp] theorem u_mNot (a : MM Bool) : mNot a en st = (bnd a fun c => ret (!c)) en st := rfl
@[simp] theorem u_mAndV (a b : MM D) : mAndV a b en st = (bnd a fun d => bnd (lft (boolD d)) fun c => if c = true then b else ret (.bl false)) en st := rfl
@[simp] theorem u_mOrV (a b : MM D) : mOrV a b en st = (bnd a fun d => bnd (lft (boolD d)) fun c => if c = true then ret (.bl true) else b) en st := rfl
@[simp] theorem u_mNotV (a : MM D) : mNotV a en st = (bnd a fun d => bnd (lft (boolD d)) fun c => ret (.bl (!c))) en st := rfl
@[simp] theorem u_mIf (c : MM Bool) (a b : MM D) : mIf c a b en st = (bnd c fun k => if k = true then a else b) en st := rfl
@[simp] theorem u_mChain (f g : FD2) (a b c : MM D) : mChain f g a b c en st = (bnd a fun x => bnd b fun y => bnd (stm (f x y)) fun d => bnd (lft (boolD d)) fun k => if k = true then bnd c fun z => stm (g y z) else ret (.bl false)) en st := rfl
@[simp] theorem u_mNeg (m : MM D) : mNeg m en st = (bnd m fun d => lft (match d with | .int i => some (.int (-i)) | _ => none)) en st := rfl
@[simp] theorem u_mTup (ms : List (MM D)) : mTup ms en st = (bnd (mArgs ms) fun ds => lft (if ds.length < 100000 then some (.tup ds) else none)) en st := rfl
@[simp] theorem u_mLst (ms : List (MM D)) : mLst ms en st = (bnd (mArgs ms) mNewL) en st := rfl
@[simp] theorem u_mNewL (ds : List D) : mNewL ds en st = (stm fun st => if ds.length < 100000 then some (.mu st.length, st ++ [ds]) else none) en st := rfl
@[simp] theorem u_mPart0 : mPart none en st = (ret none) en st := rfl
@[simp] theorem u_mPart1 (m : MM D) : mPart (some m) en st = (bnd m fun d => lft (match d with | .int i => some (some i) | _ => none)) en st := rfl
@[simp] theorem u_mSl (m : MM D) (lo hi : Option (MM D)) : mSl m lo hi en st = (bnd m fun d => bnd (mPart lo) fun l => bnd (mPart hi) fun h => stm (fSl d l h)) en st := rfl
@[simp] theorem u_mRev (m : MM D) : mRev m en st = (bnd m fun d => stm (fRev d)) en st := rfl
@[simp] theorem u_mIter (m : MM D) : mIter m en st = (bnd m fun d => asg fun _ st => iterD d st) en st := rfl
@[simp] theorem u_mMaxDf (m md : MM D) : mMaxDf m md en st = (bnd (mArgs [m]) fun ds => bnd (mArgs [md]) fun es => stm (fMaxDf ds es)) en st := rfl
@[simp] theorem u_sAsg (m : MM D) (f : SetE) : sAsg m f en st = (sEx m fun d => fun en st => (f d en).map fun en' => (.nx, en', st)) en st := rfl
@[simp] theorem u_sExpr (m : MM D) : sExpr m en st = (sEx m fun _ => sNx) en st := rfl
@[simp] theorem u_sRet (m : MM D) : sRet m en st = (sEx m fun d => fun en st => some (.rt d, en, st)) en st := rfl
@[simp] theorem u_sIf (c : MM Bool) (a b : MS) : sIf c a b en st = (sEx c fun k => if k = true then a else b) en st := rfl
@[simp] theorem u_sFor (mi : MM IT) (set : SetE) (body : MS) : sFor mi set body en st = (sEx mi fun it => sLoop it set body it.items) en st := rfl
@[simp] theorem u_sPar (i j : Nat) (ms : List (MM D)) : sPar i j ms en st = (sEx (mArgs ms) fun ds => fun en st => match ds with
  | [v, w] => if i < en.length ∧ j < en.length then some (.nx, (en.set i (some v)).set j (some w), st) else none
  | _ => none) en st := rfl
@[simp] theorem u_sPut (mv ma mi : MM D) : sPut mv ma mi en st = (sEx mv fun v => sEx ma fun a => sEx mi fun i => fun en st => match a, i with
  | .mu l, .int k => (st[l]?).bind fun ds => (ixN ds.length k).map fun j => (.nx, en, st.set l (ds.set j v))
  | _, _ => none) en st := rfl
@[simp] theorem u_mApp (ml mv : MM D) : mApp ml mv en st = (bnd ml fun d => bnd (lft (locD d)) fun l => bnd (mArgs [mv]) fun vs => stm fun st => match vs with
  | [v] => (st[l]?).bind fun ds => if ds.length < 100000 then some (.non, st.set l (ds ++ [v])) else none
  | _ => none) en st := rfl
@[simp] theorem u_ite (c : Prop) [Decidable c] (m m' : MM α) : (if c then m else m') en st = if c then m en st else m' en st := by split <;> rfl
@[simp] theorem u_iteS (c : Prop) [Decidable c] (m m' : MS) : (if c then m else m') en st = if c then m en st else m' en st := by split <;> rfl
@[simp] theorem u_setN (i : Nat) (d : D) : setN i d en = if i < en.length then some (en.set i (some d)) else none := rfl
@[simp] theorem u_isiI (i : Int) : fIsi [.int i, .ty "int"] st = some (.bl true, st) := by simp [fIsi, tyN, kit_ii]
@[simp] theorem u_isiB (i : Int) : fIsi [.int i, .ty "bool"] st = some (.bl false, st) := by simp [fIsi, tyN, kit_ib]
@[simp] theorem u_isiT (ds : List D) : fIsi [.tup ds, .ty "tuple"] st = some (.bl true, st) := by simp [fIsi, tyN, kit_tt]
@[simp] theorem u_lt (i j : Int) : fLt (.int i) (.int j) st = some (.bl (decide (i < j)), st) := rfl
@[simp] theorem u_le (i j : Int) : fLe (.int i) (.int j) st = some (.bl (decide (i ≤ j)), st) := rfl
@[simp] theorem u_gt (i j : Int) : fGt (.int i) (.int j) st = some (.bl (decide (j < i)), st) := rfl
@[simp] theorem u_ge (i j : Int) : fGe (.int i) (.int j) st = some (.bl (decide (j ≤ i)), st) := rfl
@[simp] theorem u_add (i j : Int) : fAdd (.int i) (.int j) st = some (.int (i + j), st) := rfl
@[simp] theorem u_sub (i j : Int) : fSub (.int i) (.int j) st = some (.int (i - j), st) := rfl
theorem u_mod {i j : Int} (h : 0 < j) : fMod (.int i) (.int j) st = some (.int (i % j), st) := by simp [fMod, iop, h]
theorem u_div {i j : Int} (h : 0 < j) (h2 : j.natAbs.log2 < 9000) : fDiv (.int i) (.int j) st = some (.int (i / j), st) := by simp [fDiv, iop, h, h2]
theorem u_mul {i j : Int} (h : i.natAbs.log2 + j.natAbs.log2 < 1000000) : fMul (.int i) (.int j) st = some (.int (i * j), st) := by simp [fMul, h]
@[simp] theorem u_lenT (ds : List D) : fLen [.tup ds] st = some (.int ds.length, st) := rfl
@[simp] theorem u_lenS (ns : List Int) : fLen [.scr ns] st = some (.int ns.length, st) := rfl
@[simp] theorem u_lenM (l : Nat) : fLen [.mu l] st = (st[l]?).map fun xs => (.int xs.length, st) := rfl
@[simp] theorem u_max2 (i j : Int) : fMax2 [.int i, .int j] st = some (.int (if j > i then j else i), st) := rfl
@[simp] theorem u_min2 (i j : Int) : fMin2 [.int i, .int j] st = some (.int (if j < i then j else i), st) := rfl
@[simp] theorem u_ixT (ds : List D) (i : Int) : fIx (.tup ds) (.int i) st = (atI ds i).map fun d => (d, st) := rfl
@[simp] theorem u_ixM (l : Nat) (i : Int) : fIx (.mu l) (.int i) st = (st[l]?).bind fun ds => (atI ds i).map fun d => (d, st) := rfl
@[simp] theorem u_ixS (ns : List Int) (i : Int) : fIx (.scr ns) (.int i) st = (atI ns i).map fun d => (.int d, st) := rfl
@[simp] theorem u_tupT (ds : List D) : fTuple [.tup ds] st = some (.tup ds, st) := rfl
@[simp] theorem u_tupM (l : Nat) : fTuple [.mu l] st = (st[l]?).map fun xs => (.tup xs, st) := rfl
@[simp] theorem u_addT (xs ys : List D) : fAdd (.tup xs) (.tup ys) st = if xs.length + ys.length < 100000 then some (.tup (xs ++ ys), st) else none := rfl
theorem u_addM (l k : Nat) : fAdd (.mu l) (.mu k) st = match st[l]?, st[k]? with
    | some xs, some ys => if xs.length + ys.length < 100000 then some (.mu st.length, st ++ [xs ++ ys]) else none
    | _, _ => none := rfl
@[simp] theorem u_addBi (i : Int) (y : D) : fAddB (.int i) y st = fAdd (.int i) y st := rfl
@[simp] theorem u_addBt (xs : List D) (y : D) : fAddB (.tup xs) y st = fAdd (.tup xs) y st := rfl
@[simp] theorem u_addBm (l : Nat) (y : D) : fAddB (.mu l) y st = fAdd (.mu l) y st := rfl
@[simp] theorem u_addBb (k : Bool) (i : Int) : fAddB (.bl k) (.int i) st = some (.int ((if k = true then 1 else 0) + i), st) := rfl
@[simp] theorem u_subBi (i : Int) (y : D) : fSubB (.int i) y st = fSub (.int i) y st := rfl
@[simp] theorem u_subBb (k : Bool) (i : Int) : fSubB (.bl k) (.int i) st = some (.int ((if k = true then 1 else 0) - i), st) := rfl
@[simp] theorem u_mulA (i j : Int) : fMulA (.int i) (.int j) st = fMul (.int i) (.int j) st := rfl
@[simp] theorem u_mulL (l : Nat) (j : Int) : fMulA (.mu l) (.int j) st = fMul (.mu l) (.int j) st := rfl
@[simp] theorem u_mBack (m : MM D) : mBack m en st = (bnd m fun d => stm (fBack d)) en st := rfl
@[simp] theorem u_backM (l : Nat) : fBack (.mu l) st = (st[l]?).map fun xs => (.mu st.length, st ++ [xs.reverse]) := rfl
@[simp] theorem u_backT (xs : List D) : fBack (.tup xs) st = some (.tup xs.reverse, st) := rfl
@[simp] theorem u_intI (i : Int) : fInt [.int i] st = some (.int i, st) := rfl
@[simp] theorem u_intB (k : Bool) : fInt [.bl k] st = some (.int (if k then 1 else 0), st) := rfl
end
/-! ### comprehensions -/
/-- one that only lays new lists -/
theorem gok0 {ds : List D} {st : Sto} : gOk ⟨ds, none, []⟩ st := ⟨fun _ h => (nomatch h), fun _ h => (nomatch h)⟩
theorem gok1 {ds : List D} {st : Sto} {l : Nat} (h : st[l]? = some ds) : gOk ⟨ds, some l, []⟩ st := ⟨fun k e => by (cases e; exact h), fun _ h => (nomatch h)⟩
theorem gOk.app {it : IT} {st : Sto} (h : gOk it st) (j : Sto) : gOk it (st ++ j) := ⟨fun l e => by
  have q := h.1 l e
  rw [List.getElem?_append_left (List.getElem?_eq_some_iff.mp q).1]; exact q, fun p hp => by
  have q := h.2 p hp
  rw [List.getElem?_append_left (List.getElem?_eq_some_iff.mp q).1]; exact q⟩
theorem lc_pure {mi : MM IT} {vs : List Nat} {set : SetE} {elt : MM D} {en : En} {st st1 : Sto} {it : IT} (g : Nat → D) (hi : mi en st = some (.ok it, st1)) (hl : gOk it st1) (hn : it.items.length ≤ 100000)
    (he : ∀ i d s, it.items[i]? = some d → ∃ en1 j, set d (wipeE en vs) = some en1 ∧ elt en1 (st1 ++ s) = some (.ok (g i), st1 ++ s ++ j)) :
    ∃ j, mLc mi vs set (ret true) elt en st = some (.ok (.mu st1.length), st1 ++ [(List.range it.items.length).map g] ++ j) := by
  have main : ∀ (n i : Nat) (j : Sto), it.items.length - i = n → i ≤ it.items.length → ∃ j2, cLoop it st1.length set (ret true) elt (wipeE en vs) (it.items.drop i) (st1 ++ [(List.range i).map g] ++ j) = some (st1 ++ [(List.range it.items.length).map g] ++ j2) := by
    intro n
    induction n with
    | zero =>
      intro i j h1 h2
      have e : i = it.items.length := by omega
      subst e
      refine ⟨j, ?_⟩
      rw [List.drop_length]
      unfold cLoop
      rw [if_pos]
      exact (hl.app _).app _
    | succ n ih =>
      intro i j h1 h2
      have hlt : i < it.items.length := by omega
      obtain ⟨en1, j1, e1, e2⟩ := he i it.items[i] ([(List.range i).map g] ++ j) (List.getElem?_eq_getElem hlt)
      obtain ⟨j2, e3⟩ := ih (i + 1) (j ++ j1) (by omega) hlt
      refine ⟨j2, ?_⟩
      rw [List.drop_eq_getElem_cons hlt]
      unfold cLoop
      rw [if_pos]
      · simp only [e1, u_ret]
        rw [List.append_assoc st1 _ j] at *
        rw [e2]
        have a1 : (st1 ++ ([List.map g (List.range i)] ++ j) ++ j1)[st1.length]? = some (List.map g (List.range i)) := by
          rw [List.append_assoc, List.getElem?_append_right (Nat.le_refl _)]; simp
        simp only [a1]
        rw [if_pos (by rw [List.length_map, List.length_range]; omega)]
        have a2 : (st1 ++ ([List.map g (List.range i)] ++ j) ++ j1).set st1.length (List.map g (List.range i) ++ [g i]) = st1 ++ [List.map g (List.range (i + 1))] ++ (j ++ j1) := by
          rw [List.append_assoc, List.set_append_right _ _ (Nat.le_refl _)]
          simp [List.range_succ]
        rw [a2]
        exact e3
      · exact (hl.app _).app _
  obtain ⟨j, hj⟩ := main _ 0 [] rfl (Nat.zero_le _)
  refine ⟨j, ?_⟩
  unfold mLc
  simp only [u_bnd, hi]
  have hj' : cLoop it st1.length set (ret true) elt (wipeE en vs) it.items (st1 ++ [[]]) = some (st1 ++ [(List.range it.items.length).map g] ++ j) := by simpa using hj
  rw [hj']
  rfl
def Ar (as : List Int) : Prop := 1 ≤ as.length ∧ as.length ≤ 6 ∧ ∀ a ∈ as, 0 ≤ a ∧ a ≤ 2
theorem r_all {bs : List Bool} {l : Nat} {st : Sto} (h : st[l]? = some (bs.map D.bl)) : fAll [.mu l] st = some (.bl (bs.all fun b => b), st) := by
  simp [fAll, h, blsD_map]
theorem r_allT {α : Type} {xs : List α} {l : Nat} {st : Sto} (h : st[l]? = some (xs.map fun _ => D.bl true)) : fAll [.mu l] st = some (.bl true, st) := by
  have e : xs.map (fun _ => D.bl true) = (xs.map fun _ => true).map D.bl := by rw [List.map_map]; rfl
  rw [e] at h
  rw [r_all h]
  have : ((xs.map fun _ => true).all fun b => b) = true := by simp
  rw [this]
theorem cutD_1 (x : D) (xs : List D) : cutD (x :: xs) (some 1) none = xs := by
  unfold cutD
  rw [show HT.sIx (x :: xs).length 0 (some 1) = min 1 (x :: xs).length from HT.sIx_nat (x :: xs).length 0 1, HT.sIx_none, show min 1 (x :: xs).length = 1 by simp]
  simp
theorem atI_ok {α : Type} {xs : List α} {i : Int} {x : α} (h0 : 0 ≤ i) (h : xs[i.toNat]? = some x) : atI xs i = some x := by
  have hl := (List.getElem?_eq_some_iff.mp h).1
  refine atI_mk (j := i.toNat) ?_ h
  unfold ixN
  rw [if_pos h0, if_pos (by omega)]
@[simp] theorem atI_zero {α : Type} (x : α) (xs : List α) : atI (x :: xs) 0 = some x := atI_ok (Int.le_refl 0) rfl
@[simp] theorem u_eqI (a b : Int) (st : Sto) : fEqA (.int a) (.int b) st = some (.bl (decide (a = b)), st) := by
  simp [fEqA, fEq, eqD, dat, PyData.canLay0, PyData.eqv]
  by_cases h : a = b <;> simp [h]
@[simp] theorem u_neI (a b : Int) (st : Sto) : fNeA (.int a) (.int b) st = some (.bl (!decide (a = b)), st) := by
  simp [fNeA, fNe, eqD, dat, PyData.canLay0, PyData.eqv]
  by_cases h : a = b <;> simp [h]
@[simp] theorem gOk_none (ds : List D) (st : Sto) : gOk ⟨ds, none, []⟩ st = True := by simp [gOk]
end M2
set_option Elab.async false
set_option linter.all false
set_option maxRecDepth 100000
set_option maxHeartbeats 2000000
namespace M2
open PySem PySem.Spec PyProof.Rows L2
open Classical
variable [Tb]
/-! ### loops and comprehensions by an invariant -/
def noLoc (it : IT) : Bool := it.loc.isNone && it.more.isEmpty
theorem noLoc_ok {it : IT} (h : noLoc it = true) (st : Sto) : gOk it st := by
  obtain ⟨ds, o, m⟩ := it
  unfold noLoc at h
  cases o with
  | some l => cases h
  | none =>
    cases m with
    | nil => exact ⟨fun l hl => by (cases hl), fun p hp => by (cases hp)⟩
    | cons p r => cases h
theorem loop_gen {set : SetE} {body : MS} (J : Nat → En → Sto → Prop) {it : IT} (hloc : noLoc it = true)
    (hb : ∀ i d en st, it.items[i]? = some d → J i en st → ∃ en1 en2 st2, set d en = some en1 ∧ body en1 st = some (.nx, en2, st2) ∧ J (i + 1) en2 st2) :
    ∀ {en st}, J 0 en st → ∃ en' st', sLoop it set body it.items en st = some (.nx, en', st') ∧ J it.items.length en' st' := by
  have hg : ∀ st, gOk it st := noLoc_ok hloc
  have main : ∀ (m i : Nat) (en : En) (st : Sto), it.items.length - i = m → i ≤ it.items.length → J i en st → ∃ en' st', sLoop it set body (it.items.drop i) en st = some (.nx, en', st') ∧ J it.items.length en' st' := by
    intro m
    induction m with
    | zero =>
      intro i en st h1 h2 hJ
      have e : i = it.items.length := by omega
      subst e
      rw [List.drop_length]
      exact ⟨en, st, by unfold sLoop; rw [if_pos (hg st)], hJ⟩
    | succ m ih =>
      intro i en st h1 h2 hJ
      have hlt : i < it.items.length := by omega
      obtain ⟨en1, en2, st2, e1, e2, hJ2⟩ := hb i _ en st (List.getElem?_eq_getElem hlt) hJ
      obtain ⟨en', st', e3, hJ3⟩ := ih (i + 1) en2 st2 (by omega) hlt hJ2
      refine ⟨en', st', ?_, hJ3⟩
      rw [List.drop_eq_getElem_cons hlt]
      unfold sLoop
      rw [if_pos (hg st), e1]
      simp only [e2]
      exact e3
  intro en st hJ
  obtain ⟨en', st', e, h⟩ := main _ 0 en st rfl (Nat.zero_le _) hJ
  exact ⟨en', st', by simpa using e, h⟩
theorem lc_gen {mi : MM IT} {vs : List Nat} {set : SetE} {elt : MM D} {en : En} {st st1 : Sto} {it : IT} (J : Nat → Sto → Prop) (R : D → Prop) (hi : mi en st = some (.ok it, st1)) (hloc : noLoc it = true) (hn : it.items.length ≤ 1000)
    (h0 : J 0 (st1 ++ [[]])) (hset : ∀ i s acc, J i s → J i (s.set st1.length acc))
    (hb : ∀ i d s, it.items[i]? = some d → J i s → st1.length < s.length → ∃ en1 v s2, set d (wipeE en vs) = some en1 ∧ elt en1 s = some (.ok v, s2) ∧ R v ∧ J (i + 1) s2 ∧ s2[st1.length]? = s[st1.length]?) :
    ∃ ws s', mLc mi vs set (ret true) elt en st = some (.ok (.mu st1.length), s') ∧ J it.items.length s' ∧ s'[st1.length]? = some ws ∧ ws.length = it.items.length ∧ ∀ v ∈ ws, R v := by
  have hg : ∀ st, gOk it st := noLoc_ok hloc
  have main : ∀ (m i : Nat) (acc : List D) (s : Sto), it.items.length - i = m → i ≤ it.items.length → J i s → s[st1.length]? = some acc → acc.length = i → (∀ v ∈ acc, R v) →
      ∃ ws s', cLoop it st1.length set (ret true) elt (wipeE en vs) (it.items.drop i) s = some s' ∧ J it.items.length s' ∧ s'[st1.length]? = some ws ∧ ws.length = it.items.length ∧ ∀ v ∈ ws, R v := by
    intro m
    induction m with
    | zero =>
      intro i acc s h1 h2 hJ ha hl hR
      have e : i = it.items.length := by omega
      subst e
      rw [List.drop_length]
      exact ⟨acc, s, by unfold cLoop; rw [if_pos (hg s)], hJ, ha, hl, hR⟩
    | succ m ih =>
      intro i acc s h1 h2 hJ ha hl hR
      have hlt : i < it.items.length := by omega
      have hs : st1.length < s.length := (List.getElem?_eq_some_iff.mp ha).1
      obtain ⟨en1, v, s2, e1, e2, hv, hJ2, hk⟩ := hb i _ s (List.getElem?_eq_getElem hlt) hJ hs
      rw [ha] at hk
      have hs2 : st1.length < s2.length := (List.getElem?_eq_some_iff.mp hk).1
      obtain ⟨ws, s', e3, r⟩ := ih (i + 1) (acc ++ [v]) (s2.set st1.length (acc ++ [v])) (by omega) hlt (hset _ _ _ hJ2) (by rw [List.getElem?_set_self hs2]) (by simp [hl]) (fun u hu => by
        rcases List.mem_append.mp hu with hu | hu
        · exact hR u hu
        · simp at hu; subst hu; exact hv)
      refine ⟨ws, s', ?_, r⟩
      rw [List.drop_eq_getElem_cons hlt]
      unfold cLoop
      rw [if_pos (hg s), e1]
      simp only [u_ret, e2, hk]
      rw [if_pos (by omega)]
      exact e3
  obtain ⟨ws, s', e, r⟩ := main _ 0 [] (st1 ++ [[]]) rfl (Nat.zero_le _) h0 (by simp) rfl (fun v h => nomatch h)
  refine ⟨ws, s', ?_, r⟩
  unfold mLc
  simp only [u_bnd, hi]
  rw [show it.items = it.items.drop 0 by simp, e]
  rfl
/-- one with a test that makes nothing -/
theorem lc_filter {mi : MM IT} {vs : List Nat} {set : SetE} {test : MM Bool} {elt : MM D} {en : En} {st st1 : Sto} {it : IT} (g : D → Option D) (hi : mi en st = some (.ok it, st1)) (hloc : noLoc it = true) (hn : it.items.length ≤ 1000)
    (hb : ∀ d ∈ it.items, ∃ en1 b v, set d (wipeE en vs) = some en1 ∧ (∀ s, test en1 s = some (.ok b, s)) ∧ (∀ s, elt en1 s = some (.ok v, s)) ∧ g d = if b = true then some v else none) :
    mLc mi vs set test elt en st = some (.ok (.mu st1.length), st1 ++ [it.items.filterMap g]) := by
  have hg : ∀ st, gOk it st := noLoc_ok hloc
  have main : ∀ (ds acc : List D), (∀ d ∈ ds, d ∈ it.items) → acc.length + ds.length ≤ 1000 → cLoop it st1.length set test elt (wipeE en vs) ds (st1 ++ [acc]) = some (st1 ++ [acc ++ ds.filterMap g]) := by
    intro ds
    induction ds with
    | nil =>
      intro acc _ _
      unfold cLoop
      rw [if_pos (hg _)]
      simp
    | cons d r ih =>
      intro acc hm hl
      obtain ⟨en1, b, v, e1, e2, e3, e4⟩ := hb d (hm d List.mem_cons_self)
      unfold cLoop
      rw [if_pos (hg _), e1]
      simp only [e2]
      cases b with
      | true =>
        simp only [e3]
        have a1 : (st1 ++ [acc])[st1.length]? = some acc := by simp
        simp only [a1]
        simp at hl
        rw [if_pos (by omega), show (st1 ++ [acc]).set st1.length (acc ++ [v]) = st1 ++ [acc ++ [v]] by simp, ih _ (fun x hx => hm x (List.mem_cons_of_mem _ hx)) (by simp; omega)]
        rw [if_pos rfl] at e4
        simp [List.filterMap_cons, e4]
      | false =>
        simp at hl
        have hz := ih acc (fun x hx => hm x (List.mem_cons_of_mem _ hx)) (by omega)
        simp only [hz]
        rw [if_neg Bool.false_ne_true] at e4
        simp [List.filterMap_cons, e4]
  unfold mLc
  simp only [u_bnd, hi]
  rw [main it.items [] (fun _ h => h) (by simpa using hn)]
  simp

/-- the pen at p: three numbers, at most N draws so far -/
def Pn (N : Nat) (st : Sto) (p : Nat) : Prop := ∃ a b c : Int, st[p]? = some [.int a, .int b, .int c] ∧ 0 ≤ a ∧ 0 ≤ b ∧ b < 2147483648 ∧ 0 ≤ c ∧ c ≤ N
/-- all else stands -/
def Fp (p : Nat) (st st' : Sto) : Prop := st.length ≤ st'.length ∧ ∀ l, l < st.length → l ≠ p → st'[l]? = st[l]?
theorem Fp.refl {p : Nat} {st : Sto} : Fp p st st := ⟨Nat.le_refl _, fun _ _ _ => rfl⟩
theorem Fp.trans {p : Nat} {a b c : Sto} (h : Fp p a b) (h2 : Fp p b c) : Fp p a c := ⟨Nat.le_trans h.1 h2.1, fun l hl hp => (h2.2 l (Nat.lt_of_lt_of_le hl h.1) hp).trans (h.2 l hl hp)⟩
theorem Fp.app {p : Nat} {a : Sto} (j : Sto) : Fp p a (a ++ j) := ⟨by simp, fun l hl _ => List.getElem?_append_left hl⟩
theorem Pn.app {N p : Nat} {a : Sto} (h : Pn N a p) (j : Sto) : Pn N (a ++ j) p := by
  obtain ⟨x, y, z, e, r⟩ := h
  exact ⟨x, y, z, by rw [List.getElem?_append_left (List.getElem?_eq_some_iff.mp e).1]; exact e, r⟩
theorem Pn.lt {N p : Nat} {a : Sto} (h : Pn N a p) : p < a.length := by
  obtain ⟨x, y, z, e, r⟩ := h
  exact (List.getElem?_eq_some_iff.mp e).1
theorem Pn.mono {N M p : Nat} {a : Sto} (h : Pn N a p) (hm : N ≤ M) : Pn M a p := by
  obtain ⟨x, y, z, e, r1, r2, r3, r4, r5⟩ := h
  exact ⟨x, y, z, e, r1, r2, r3, r4, by omega⟩
theorem Pn.set {N p q : Nat} {a : Sto} (h : Pn N a p) (hq : q ≠ p) (x : List D) : Pn N (a.set q x) p := by
  obtain ⟨u, y, z, e, r⟩ := h
  exact ⟨u, y, z, by rw [List.getElem?_set_ne hq]; exact e, r⟩
theorem log_lt {n : Nat} {k : Nat} (hk : 0 < k) (h : n < 2 ^ k) : n.log2 < k := PySem.Flt.log2_lt_of hk h
theorem mul_ok {i j : Int} (h1 : i.natAbs < 2 ^ 1000) (h2 : j.natAbs < 2 ^ 1000) : i.natAbs.log2 + j.natAbs.log2 < 1000000 := by
  have := log_lt (by decide : 0 < 1000) h1
  have := log_lt (by decide : 0 < 1000) h2
  omega
theorem Fp.set {p q : Nat} {a b : Sto} (h : Fp p a b) (hq : a.length ≤ q) (x : List D) : Fp p a (b.set q x) :=
  ⟨by simpa using h.1, fun l hl hp => by rw [List.getElem?_set_ne (by omega)]; exact h.2 l hl hp⟩
/-- all of these are ints with P -/
def IntsP (P : Int → Prop) (d : D) : Prop := ∃ a, d = .int a ∧ P a
theorem ints_of {P : Int → Prop} : ∀ {ws : List D}, (∀ v ∈ ws, IntsP P v) → ∃ ns : List Int, ws = ns.map D.int ∧ ∀ n ∈ ns, P n
  | [], _ => ⟨[], rfl, fun _ h => nomatch h⟩
  | w :: ws, h => by
    obtain ⟨a, rfl, ha⟩ := h w List.mem_cons_self
    obtain ⟨ns, rfl, hn⟩ := ints_of (ws := ws) fun v hv => h v (List.mem_cons_of_mem _ hv)
    exact ⟨a :: ns, rfl, fun n hn' => by
      rcases List.mem_cons.mp hn' with rfl | hn'
      · exact ha
      · exact hn n hn'⟩
theorem rng_ok {en : En} {st st1 : Sto} {m : MM D} {r : Int} (h : m en st = some (.ok (.int r), st1)) (h0 : 0 ≤ r) (h1 : r < 1000000) : mRng1 m en st = some (.ok ⟨(List.range r.toNat).map fun (i : Nat) => D.int (i : Int), none, []⟩, st1) := by
  have c1 : -(2 ^ 62) ≤ r := by omega
  have c2 : r < 2 ^ 62 := by omega
  simp only [mRng1, u_bnd, h, u_lft]
  rw [if_pos ⟨c1, c2⟩]
  rfl
/-- a loop over a list that stays -/
theorem loop_loc {set : SetE} {body : MS} (J : Nat → En → Sto → Prop) {it : IT} (hloc : ∀ i en st, J i en st → gOk it st)
    (hb : ∀ i d en st, it.items[i]? = some d → J i en st → ∃ en1 en2 st2, set d en = some en1 ∧ body en1 st = some (.nx, en2, st2) ∧ J (i + 1) en2 st2) :
    ∀ {en st}, J 0 en st → ∃ en' st', sLoop it set body it.items en st = some (.nx, en', st') ∧ J it.items.length en' st' := by
  have main : ∀ (m i : Nat) (en : En) (st : Sto), it.items.length - i = m → i ≤ it.items.length → J i en st → ∃ en' st', sLoop it set body (it.items.drop i) en st = some (.nx, en', st') ∧ J it.items.length en' st' := by
    intro m
    induction m with
    | zero =>
      intro i en st h1 h2 hJ
      have e : i = it.items.length := by omega
      subst e
      rw [List.drop_length]
      exact ⟨en, st, by unfold sLoop; rw [if_pos (hloc _ _ _ hJ)], hJ⟩
    | succ m ih =>
      intro i en st h1 h2 hJ
      have hlt : i < it.items.length := by omega
      obtain ⟨en1, en2, st2, e1, e2, hJ2⟩ := hb i _ en st (List.getElem?_eq_getElem hlt) hJ
      obtain ⟨en', st', e3, hJ3⟩ := ih (i + 1) en2 st2 (by omega) hlt hJ2
      refine ⟨en', st', ?_, hJ3⟩
      rw [List.drop_eq_getElem_cons hlt]
      unfold sLoop
      rw [if_pos (hloc _ _ _ hJ), e1]
      simp only [e2]
      exact e3
  intro en st hJ
  obtain ⟨en', st', e, h⟩ := main _ 0 en st rfl (Nat.zero_le _) hJ
  exact ⟨en', st', by simpa using e, h⟩
end M2
set_option Elab.async false
set_option linter.all false
set_option maxRecDepth 100000
set_option maxHeartbeats 2000000
namespace M2
open PySem PySem.Spec PyProof.Rows L2
open Classical
variable [Tb]
theorem at_app {st : Sto} {l : Nat} {x : List D} (h : st[l]? = some x) (j : Sto) : (st ++ j)[l]? = some x := by
  rw [List.getElem?_append_left (List.getElem?_eq_some_iff.mp h).1]; exact h
theorem at0 {st : Sto} {x : List D} {r : Sto} : (st ++ x :: r)[st.length]? = some x := by
  rw [List.getElem?_append_right (Nat.le_refl _)]; simp
/-- values that the law hands about -/
inductive Ok : D → Prop
  | non : Ok .non
  | bl (b) : Ok (.bl b)
  | int (i) : Ok (.int i)
  | str (x) : Ok (.str x)
  | mu (l) : Ok (.mu l)
  | dic (kvs) : Ok (.dic kvs)
  | tup {ds} : (∀ x ∈ ds, Ok x) → ds.length ≤ 90000 → Ok (.tup ds)
def intB : D → Bool
  | .int _ => true
  | .bl _ => true
  | _ => false
def blB : D → Bool
  | .bl _ => true
  | _ => false
def tupB : D → Bool
  | .tup _ => true
  | _ => false
section
variable {d : D} {st : Sto}
theorem u_int (h : Ok d) : fIsi [d, .ty "int"] st = some (.bl (intB d), st) := by
  cases h with
  | non => simp [fIsi, tyN, intB, show kitB "NoneType" "int" = some false by decide +kernel]
  | bl => simp [fIsi, tyN, intB, show kitB "bool" "int" = some true by decide +kernel]
  | int => simp [fIsi, tyN, intB, show kitB "int" "int" = some true by decide +kernel]
  | str => simp [fIsi, tyN, intB, show kitB "str" "int" = some false by decide +kernel]
  | mu => simp [fIsi, tyN, intB, show kitB "list" "int" = some false by decide +kernel]
  | dic => simp [fIsi, tyN, intB, show kitB "dict" "int" = some false by decide +kernel]
  | tup => simp [fIsi, tyN, intB, show kitB "tuple" "int" = some false by decide +kernel]
theorem u_bool (h : Ok d) : fIsi [d, .ty "bool"] st = some (.bl (blB d), st) := by
  cases h with
  | non => simp [fIsi, tyN, blB, show kitB "NoneType" "bool" = some false by decide +kernel]
  | bl => simp [fIsi, tyN, blB, show kitB "bool" "bool" = some true by decide +kernel]
  | int => simp [fIsi, tyN, blB, show kitB "int" "bool" = some false by decide +kernel]
  | str => simp [fIsi, tyN, blB, show kitB "str" "bool" = some false by decide +kernel]
  | mu => simp [fIsi, tyN, blB, show kitB "list" "bool" = some false by decide +kernel]
  | dic => simp [fIsi, tyN, blB, show kitB "dict" "bool" = some false by decide +kernel]
  | tup => simp [fIsi, tyN, blB, show kitB "tuple" "bool" = some false by decide +kernel]
theorem u_tup (h : Ok d) : fIsi [d, .ty "tuple"] st = some (.bl (tupB d), st) := by
  cases h with
  | non => simp [fIsi, tyN, tupB, show kitB "NoneType" "tuple" = some false by decide +kernel]
  | bl => simp [fIsi, tyN, tupB, show kitB "bool" "tuple" = some false by decide +kernel]
  | int => simp [fIsi, tyN, tupB, show kitB "int" "tuple" = some false by decide +kernel]
  | str => simp [fIsi, tyN, tupB, show kitB "str" "tuple" = some false by decide +kernel]
  | mu => simp [fIsi, tyN, tupB, show kitB "list" "tuple" = some false by decide +kernel]
  | dic => simp [fIsi, tyN, tupB, show kitB "dict" "tuple" = some false by decide +kernel]
  | tup => simp [fIsi, tyN, tupB, show kitB "tuple" "tuple" = some true by decide +kernel]
end
@[simp] theorem tupB_t (ds : List D) : tupB (.tup ds) = true := rfl
def whB (lo hi : Int) : D → Bool
  | .int i => decide (lo ≤ i) && decide (i ≤ hi)
  | _ => false
/-- all of some tests -/
theorem lc_bools {ds : List D} {B : D → Bool} {mi : MM IT} {vs : List Nat} {set : SetE} {elt : MM D} {en : En} {st : Sto} (hi : mi en st = some (.ok ⟨ds, none, []⟩, st)) (hn : ds.length ≤ 100000)
    (he : ∀ d ∈ ds, ∀ s, ∃ en1 j, set d (wipeE en vs) = some en1 ∧ elt en1 (st ++ s) = some (.ok (.bl (B d)), st ++ s ++ j)) :
    ∃ j, mLc mi vs set (ret true) elt en st = some (.ok (.mu st.length), st ++ [(ds.map B).map D.bl] ++ j) := by
  obtain ⟨j, hj⟩ := lc_pure (mi := mi) (vs := vs) (set := set) (elt := elt) (en := en) (st := st) (st1 := st) (it := ⟨ds, none, []⟩) (fun k => D.bl (B (ds.getD k .non))) hi gok0 hn (fun i d s hd => by
    have hm := List.mem_of_getElem? hd
    obtain ⟨en1, j, e1, e2⟩ := he d hm s
    refine ⟨en1, j, e1, ?_⟩
    rw [e2, List.getD_eq_getElem?_getD, show ds[i]? = some d from hd]; rfl)
  refine ⟨j, ?_⟩
  rw [hj]
  have : (List.range ds.length).map (fun k => D.bl (B (ds.getD k .non))) = (ds.map B).map D.bl := by
    apply List.ext_getElem
    · simp
    · intro i h1 h2
      simp at h1
      simp [List.getD_eq_getElem?_getD, List.getElem?_eq_getElem h1]
  rw [this]
/-- as many 1 as there are that fail -/
theorem lc_ones {it : IT} {B : D → Bool} {mi : MM IT} {vs : List Nat} {set : SetE} {test : MM Bool} {en : En} {st st1 : Sto} (hi : mi en st = some (.ok it, st1)) (hl : gOk it st1) (hn : it.items.length ≤ 90000)
    (he : ∀ d ∈ it.items, ∀ s, ∃ en1 j, set d (wipeE en vs) = some en1 ∧ test en1 (st1 ++ s) = some (.ok (!B d), st1 ++ s ++ j)) :
    ∃ n j, mLc mi vs set test (ret (.int 1)) en st = some (.ok (.mu st1.length), st1 ++ [List.replicate n (.int 1)] ++ j) ∧ (n = 0 ↔ it.items.all B = true) := by
  have main : ∀ (ds : List D), (∀ d ∈ ds, d ∈ it.items) → ∀ (m : Nat) (j : Sto), m + ds.length ≤ 90000 → ∃ n j2, cLoop it st1.length set test (ret (.int 1)) (wipeE en vs) ds (st1 ++ [List.replicate m (.int 1)] ++ j) = some (st1 ++ [List.replicate n (.int 1)] ++ j2) ∧ (n = 0 ↔ m = 0 ∧ ds.all B = true) := by
    intro ds
    have hg : ∀ (acc : List D) (j : Sto), gOk it (st1 ++ [acc] ++ j) := fun acc j => (hl.app _).app _
    induction ds with
    | nil =>
      intro _ m j _
      refine ⟨m, j, ?_, by simp⟩
      unfold cLoop
      rw [if_pos (hg _ _)]
    | cons d r ih =>
      intro hm m j hlen
      have hlen' : m + 1 + r.length ≤ 90000 := by simp at hlen; omega
      obtain ⟨en1, j1, e1, e2⟩ := he d (hm d List.mem_cons_self) ([List.replicate m (.int 1)] ++ j)
      rw [← List.append_assoc] at e2
      unfold cLoop
      rw [if_pos (hg _ _)]
      simp only [e1, e2]
      cases hB : B d with
      | true =>
        obtain ⟨n, j2, e3, e4⟩ := ih (fun x hx => hm x (List.mem_cons_of_mem _ hx)) m (j ++ j1) (by omega)
        refine ⟨n, j2, ?_, by rw [e4]; simp [hB]⟩
        simp only [Bool.not_true]
        rw [List.append_assoc (st1 ++ [List.replicate m (D.int 1)])]
        exact e3
      | false =>
        obtain ⟨n, j2, e3, e4⟩ := ih (fun x hx => hm x (List.mem_cons_of_mem _ hx)) (m + 1) (j ++ j1) hlen'
        refine ⟨n, j2, ?_, by rw [e4]; simp [hB]⟩
        simp only [Bool.not_false, u_ret]
        have a1 : (st1 ++ [List.replicate m (D.int 1)] ++ j ++ j1)[st1.length]? = some (List.replicate m (D.int 1)) := by
          rw [List.append_assoc, List.append_assoc, List.getElem?_append_right (Nat.le_refl _)]; simp
        have a2 : (st1 ++ [List.replicate m (D.int 1)] ++ j ++ j1).set st1.length (List.replicate m (D.int 1) ++ [D.int 1]) = st1 ++ [List.replicate (m + 1) (D.int 1)] ++ (j ++ j1) := by
          rw [List.append_assoc, List.append_assoc, List.set_append_right _ _ (Nat.le_refl _)]
          simp [List.replicate_succ']
        simp only [a1]
        rw [if_pos (by rw [List.length_replicate]; omega), a2]
        exact e3
  obtain ⟨n, j, e1, e2⟩ := main it.items (fun _ h => h) 0 [] (by omega)
  refine ⟨n, j, ?_, by rw [e2]; simp⟩
  unfold mLc
  rw [u_bnd, hi]
  simp only []
  have : st1 ++ [[]] = st1 ++ [List.replicate 0 (D.int 1)] ++ [] := by simp
  rw [this, e1]
  rfl
theorem dat_int (st : Sto) (n : Nat) (i : Int) : dat st (n + 1) (.int i) = some (.int i) := by simp [dat]
theorem eq_ones {l k n : Nat} {st : Sto} (h1 : st[l]? = some (List.replicate n (.int 1))) (h2 : st[k]? = some []) : fEqA (.mu l) (.mu k) st = some (.bl (decide (n = 0)), st) ∧ fNeA (.mu l) (.mu k) st = some (.bl (!decide (n = 0)), st) := by
  have e0 : List.replicate n (D.int 1) = (List.replicate n (1 : Int)).map D.int := by simp
  have e1 : dat st 64 (.mu l) = some (.list ((List.replicate n (1 : Int)).map PyData.int)) := by
    have q : dat st 64 (.mu l) = (datL st 63 (List.replicate n (D.int 1))).map PyData.list := by simp [dat, h1]
    have q2 : datL st 63 ((List.replicate n (1 : Int)).map D.int) = some ((List.replicate n (1 : Int)).map PyData.int) := by
      generalize List.replicate n (1 : Int) = ns
      induction ns with
      | nil => simp [datL]
      | cons x xs ih => simp [datL, dat, ih]
    rw [q, e0, q2]; rfl
  have e2 : dat st 64 (.mu k) = some (.list []) := by simp [dat, h2, datL]
  have c1 : PyData.canLay0 (.list ((List.replicate n (1 : Int)).map PyData.int)) = true := by
    show PyData.canLayAll0 ((List.replicate n (1 : Int)).map PyData.int) = true
    generalize List.replicate n (1 : Int) = ns
    induction ns with
    | nil => rfl
    | cons x xs ih => show (PyData.canLay0 (.int x) && PyData.canLayAll0 (xs.map PyData.int)) = true; rw [ih]; rfl
  have c2 : PyData.canLay0 (.list []) = true := rfl
  have e3 : PyData.eqv (.list ((List.replicate n (1 : Int)).map PyData.int)) (.list []) = decide (n = 0) := by
    cases n with
    | zero => rfl
    | succ n => rfl
  constructor
  · show fEq (.mu l) (.mu k) st = _
    unfold fEq eqD
    rw [e1, e2]
    simp only [c1, c2, and_self, if_true, Option.map_some, e3]
  · show fNe (.mu l) (.mu k) st = _
    unfold fNe eqD
    rw [e1, e2]
    simp only [c1, c2, and_self, if_true, Option.map_some, e3]
section
variable {en en1 : En} {st st' s1 : Sto} {c : MM Bool} {a b k : MS} {m : MM D} {d : D}
theorem s_if0 (h : c en st = some (.ok false, st')) : sSeq (sIf c a sNx) b en st = b en st' := by
  rw [u_sSeq, u_sIf, u_sEx, h]; rfl
theorem s_if1 (h : c en st = some (.ok true, st')) : sSeq (sIf c (sSeq (sRet (ret d)) sNx) sNx) b en st = some (.rt d, en, st') := by
  rw [u_sSeq, u_sIf, u_sEx, h]; rfl
theorem s_ret (h : m en st = some (.ok d, st')) : sSeq (sRet m) k en st = some (.rt d, en, st') := by
  rw [u_sSeq, u_sRet, u_sEx, h]
theorem s_asg (f : SetE) (h : m en st = some (.ok d, st')) (hf : f d en = some en1) : sSeq (sAsg m f) k en st = k en1 st' := by
  rw [u_sSeq, u_sAsg, u_sEx, h]; simp only [hf, Option.map_some]
theorem run_rt {n : Nat} {ds : List D} {e2 : En} (h : b (envOf n ds) st = some (.rt d, e2, st')) : runF n b ds st = some (.ok d, st') := by
  rw [u_runF, h]
theorem onesEq {n : Nat} {j : Sto} (h : m en st = some (.ok (.mu st.length), st ++ [List.replicate n (.int 1)] ++ j)) :
    mOp fEqA m (mLst []) en st = some (.ok (.bl (decide (n = 0))), st ++ [List.replicate n (.int 1)] ++ j ++ [[]]) ∧ mOp fNeA m (mLst []) en st = some (.ok (.bl (!decide (n = 0))), st ++ [List.replicate n (.int 1)] ++ j ++ [[]]) := by
  have e := eq_ones (l := st.length) (k := (st ++ [List.replicate n (D.int 1)] ++ j).length) (n := n) (st := st ++ [List.replicate n (D.int 1)] ++ j ++ [[]]) (by rw [List.append_assoc, List.append_assoc]; exact at0) at0
  have z : (0 : Nat) < 100000 := by decide
  constructor
  · simp only [u_mOp, u_bnd, h, u_mLst, u_mArgs0, u_ret, u_mNewL, u_stm, List.length_nil, z, if_true, Option.map_some, e.1]
  · simp only [u_mOp, u_bnd, h, u_mLst, u_mArgs0, u_ret, u_mNewL, u_stm, List.length_nil, z, if_true, Option.map_some, e.2]
end
@[simp] theorem at4_1 (a b c d : D) : atI [a, b, c, d] 1 = some b := rfl
@[simp] theorem at4_2 (a b c d : D) : atI [a, b, c, d] 2 = some c := rfl
@[simp] theorem at4_3 (a b c d : D) : atI [a, b, c, d] 3 = some d := rfl
@[simp] theorem at3_1 (a b c : D) : atI [a, b, c] 1 = some b := rfl
@[simp] theorem at3_2 (a b c : D) : atI [a, b, c] 2 = some c := rfl
theorem len4 {ds : List D} (h : ds.length = 4) : ∃ a b c d, ds = [a, b, c, d] := by
  match ds, h with
  | [a, b, c, d], _ => exact ⟨a, b, c, d, rfl⟩
theorem len3 {ds : List D} (h : ds.length = 3) : ∃ a b c, ds = [a, b, c] := by
  match ds, h with
  | [a, b, c], _ => exact ⟨a, b, c, rfl⟩
end M2
set_option Elab.async false
set_option linter.all false
set_option maxRecDepth 100000
set_option maxHeartbeats 4000000
namespace M2
open PySem PySem.Spec PyProof.Rows L2
variable [Tb]
/-! ### _law_said(lambda: ..) -/
def mKnd (a : Addr) (wd : Str) (m : MM (List D)) : MM D := bnd m fun ds => match ds with
  | [.cls b] => if b = a then ret (.str wd) else lft none
  | _ => lft none
def mNv : MM D := fun _ _ => none
theorem de_nv {X : Cx} {E : XK} {e : Expr} : DE X E e mNv := ⟨fun pins s σ H Q I ⟨en, st, φ, re, rs, r, st', em, q⟩ => by cases em⟩
def saidT (wd : Str) : Str := (Str.ofString "! " ++ wd) ++ Str.ofString ""
def bSuite (a : Addr) (wd : Str) : MS := sSeq (sAsg (mKnd a wd (mArgs [mVar 1])) (setN 2)) (sSeq (sRet (mOp fAddB (mOp fAddB (ret (.str (Str.ofString "! "))) (mVar 2)) (mIf (mB (mOp fEqA (mVar 2) (ret (.str (Str.ofString "many"))))) mNv (ret (.str (Str.ofString "")))))) sNx)
theorem bSuite_run {f a : Addr} {wd : Str} {st : Sto} (h1 : wd.length ≤ 1000) (h2 : wd ≠ Str.ofString "many") : bSuite a wd [some (.cls f), some (.cls a), none] st = some (.rt (.str (saidT wd)), [some (.cls f), some (.cls a), some (.str wd)], st) := by
  have l2 : (Str.ofString "! ").length = 2 := by decide +kernel
  have l0 : (Str.ofString "").length = 0 := by decide +kernel
  have la : (Str.ofString "! " ++ wd).length = 2 + wd.length := by
    show ((Str.ofString "! ").cps ++ wd.cps).size = _
    rw [Array.size_append]
    exact congrArg (· + wd.length) l2
  have lb : (Str.ofString "! " ++ wd).length ≤ 100000 := by omega
  have lc : 2 + wd.length ≤ 100000 := by omega
  simp [bSuite, mKnd, fAddB, fBI, fAdd, fEqA, h2, saidT, l2, l0, lb, lc]
def mSaid (kw : List (Str × Str)) (m : MM D) : MM D := fun en st => match m en st with
  | none => none
  | some (.ok d, st1) => (fReprA [d] st1).map fun p => (.ok p.1, p.2)
  | some (.error e, st1) => match e.fs, kw.lookup e.n with
    | [], some wd => if wd.length ≤ 1000 ∧ wd ≠ Str.ofString "many" then some (.ok (.str (saidT wd)), st1) else none
    | _, _ => none
abbrev Nsaid : List Str := ["_law_call", "_law_error", "_law_word"]
structure SaidOk (P : Program) (w : World) (K : PySem.W.Frag) (mg : Str → Option Value) (base : Heap) (k : Nat) (kw : List (Str × Str)) : Prop where
  ex : ∃ (g : Addr) (sd b₀ : Stmt) (suite : List Stmt) (oc : Value) (od : Option Addr) (kV dc pm : Value) (an : Option Addr) (cdv ct : Value) (osl : Array (Option Value)) (p0 p1 p2 p3 p4 p5 p6 p7 : Pos),
    mg "_law_said" = some (.ref g) ∧ PySem.W.keepIn K (.ref g) = true ∧ K.lookup g = some ⟨oc, od, .func (PySem.W.fnOf "_law_said" "_law_said" (defArgs sd) (defBody sd) (defScope sd) .none kV dc pm an cdv ct), osl⟩ ∧ PySem.W.codeIn K cdv "_law_said" = true ∧
    Binds K (PySem.W.fnOf "_law_said" "_law_said" (defArgs sd) (defBody sd) (defScope sd) .none kV dc pm an cdv ct) ["_law_call"] [] ∧ FnScope Nsaid ["_law_call"] (defScope sd) ∧
    (defScope sd).names.lookup ("_law_call" : Str) = some .local ∧ (defScope sd).names.lookup ("_law_error" : Str) = some .local ∧ (defScope sd).names.lookup ("repr" : Str) = some .globalImplicit ∧ (defScope sd).names.lookup ("PickError" : Str) = some .globalImplicit ∧
    defBody sd = [.Try [.Return (some (.Call (.Name "repr" p0) [.Call (.Name "_law_call" p1) [] [] p2] [] p3)) p4] [.ExceptHandler (some (.Name "PickError" p5)) (some "_law_error") (b₀ :: suite) p6] [] [] p7] ∧
    ∀ (A : Around) (ou : List Env) (s : Shared) (H : Hp) (a : Addr) (oe : Obj) (n wd : Str) (pn : List (Addr × Obj)), A.guards = some [] → Room (k + 1) (A.deeper (envOfC "_law_said" (defScope sd) s.heap.objs.size g cdv)) → (n, wd) ∈ kw → Zc (.ref (clsA K n)) none oe → (∃ us, oe.data = .fields us) →
      DSs ((cxOf C8.CX0 P w K mg base Nsaid "_law_said" (defScope sd) g cdv A ou s H C8.E0).suite a ((a, oe) :: pn)) noE (b₀ :: suite) (bSuite a wd)
  kn : ∀ n wd, (n, wd) ∈ kw → Knd K n
  mR : mg "repr" = none
  mP : mg "PickError" = some (.ref (clsA K "PickError"))
/-- the suite's reading -/
def tsS (K : PySem.W.Frag) (kw : List (Str × Str)) : Addr → Value → Option Addr → TS := fun a cls d D σ H => ∃ n wd, (n, wd) ∈ kw ∧ cls = .ref (clsA K n) ∧ d = none ∧ tSM K noE (bSuite a wd) D σ H
theorem fly_of {K : PySem.W.Frag} {E : XK} {e : Er} {H : Hp} (h : e.fs = []) (q : E (.ref (clsA K e.n)) none H) : Fly K E e H := by
  unfold Fly
  rw [h]; exact q
theorem lookup_mem : ∀ {kw : List (Str × Str)} {n wd : Str}, kw.lookup n = some wd → (n, wd) ∈ kw
  | [], _, _, h => by cases h
  | (m, v) :: r, n, wd, h => by
    rw [List.lookup_cons] at h
    split at h
    · rename_i e
      cases h
      rw [eq_of_beq e]; exact List.mem_cons_self
    · exact List.mem_cons_of_mem _ (lookup_mem h)
section
variable {X : Cx} {E : XK}
theorem de_said {k : Nat} {kw : List (Str × Str)} {c Pt : Addr} {params : Arguments} {lb : Expr} {scope : Scope} {m : MM D} {p lpos pos : Pos} (d : SaidOk X.prog X.w X.K X.mg X.base k kw) (gd : X.A.guards = some []) (room : Room (k + 2) X.A) (hg : Gl X "_law_said")
    (TB : LamX.TabB X.base X.mg c Pt) (hcode : X.env.code = .ref c) (mT : (Pt, X.env.qual ++ "<lambda>") ∈ Tb.T) (uT : ∀ p ∈ Tb.T, p.1 = Pt → p.2 = X.env.qual ++ "<lambda>") (L : LamX.LamS X.env.scope scope) (hdef : defaultsOf params X.env = ([], []))
    (bnd0 : ∀ (q : Str) (cl : List (Str × Addr)) (pm cv ctv : Value), bindArgs (PySem.W.kla_fn "<lambda>" q params lb scope cl pm cv ctv) ⟨[], []⟩ = pure [])
    (says : ∀ (f c' : Addr) (A : Around) (ou : List Env) (s : Shared) (H : Hp) (E : XK), A.guards = some [] → Room k (A.deeper (LamX.lamEnv X scope s.heap.objs.size f c')) → DE (LamX.lamCx X A ou s H E scope f c') E lb m) :
    DE X E (.Call (.Name "_law_said" p) [.Lambda params lb scope lpos] [] pos) (mSaid kw m) := by
  obtain ⟨g, sd, b₀, suite, oc, od, kV, dc, pm, an, cdv, ct, osl, p0, p1, p2, p3, p4, p5, p6, p7, hm, hk, lk, hcg, hbn, Sg, l0, l1, lR, lP, hbd, hsu⟩ := d.ex
  refine ⟨fun pins s σ H Q I ⟨en, st, φ, re, rs, r, st', em, q⟩ => wpAny_Call_Name_kw (ld_glob I hg hm (PySem.W.callWith_K (h₀ := X.base) I.ok.mod.kin hk ?_ (by rfl) (by rfl)) (by decide))⟩
  show wpAny _ _ (spliced ((false, eval (.Lambda params lb scope lpos) X.env) :: backTo pos (starEach [] X.env))) _ _ _
  refine Calls.spliced_cons (LamX.lam_make2 I TB hcode mT uT rs.tabs hdef (L.has I.ok) fun f c' pm' ctv H1 s' I1 eN T1 isF nF noFr isC => Calls.spliced_nil ⟨I1.kIn, ?_⟩)
  have kp : HKp H H1 := fun b o e n => eN b o e n
  have k1 : KX H φ H1 φ := kp.kx φ
  have rs1 := rs.kp kp T1
  have re1 := re.mono k1
  refine wpAny_call (codeAny_mono (R := CR C8.CX0 X.stack X.prog X.w H1 s' Q C8.E0) (LamX.run_ofS (N := Nsaid) (ps := ["_law_call"]) (us := [.ref f]) (vs := [.ref f]) lk hcg Sg room I1.env0 (hbn s' [.ref f] I1.kIn rfl) (.cons rfl .nil) rfl fun hr' => ?_) fun res s2 z => ?_)
  · have hu : (X.A.deeper (envOfC "_law_said" (defScope sd) s'.heap.objs.size g cdv)).units + 66 < cLine := by have := hr'.un; omega
    rw [hbd]
    refine ⟨_, pss_one (ps_try_as (X := cxOf C8.CX0 X.prog X.w X.K X.mg X.base Nsaid "_law_said" (defScope sd) g cdv X.A X.stack s' H1 C8.E0) (c := .ref (clsA X.K "PickError")) (i := 1) (Wout := fun _ _ _ _ => False)
      (tb := fun W D σ1 H2 => σ1[0]? = some (some (.ref f)) ∧ H2 c' = some (LamX.CodeO c' (X.env.qual ++ "<lambda>")) ∧ tM X.K (fun cls d H' => W cls d σ1 H') m σ H2 (fun v H' => (rReprDic X.K [v] H' D.rt ∨ rRepr X.K [v] H' D.rt)))
      (ts := tsS X.K kw) rfl rfl Sg.nd rfl l1 ⟨lP, by decide, .inl d.mP⟩ LamX.takes0 ?_ ?_), ?_⟩
    · intro W pn xe tk _
      exact pss_imp (pss_one (ps_ret (pos := p4) (pe_callB (call_reprA gd hu) lR d.mR PyProof.Rows.boot_repr (pa_cons (act_lam (tb := fun E => tM X.K E m) (i := 0) I1 L isF nF noFr (bnd0 _ _ _ _ _) tk gd hr' (fun A ou s H E g1 g2 => says f c' A ou s H E g1 g2) rfl (.inl l0) (by decide) (by decide)) pa_nil) (by decide) (by decide) rfl rfl))) fun D σ1 H2 h => h
    · intro a oe cls d' pn hz hf
      refine ⟨fun pins s3 σ1 H2 D I3 h => ?_⟩
      obtain ⟨n, wd, hn, e1, e2, h⟩ := h
      subst e1 e2
      exact (hsu X.A X.stack s' H1 a oe n wd pn gd hr' hn hz hf).run pins s3 σ1 H2 D I3 h
    · refine ⟨rfl, isC, ?_⟩
      unfold mSaid at em
      cases hm0 : m en st with
      | none => rw [hm0] at em; cases em
      | some r0 =>
        obtain ⟨r0, st1⟩ := r0
        rw [hm0] at em
        refine ⟨en, st, φ, re1, rs1, r0, st1, hm0, fun φ' H' kx rs' => ?_⟩
        cases r0 with
        | ok dv =>
          replace em : (fReprA [dv] st1).map (fun p => ((Except.ok p.1 : Except Er D), p.2)) = some (r, st') := em
          cases e3 : fReprA [dv] st1 with
          | none => rw [e3] at em; cases em
          | some pr =>
            rw [e3] at em; cases em
            exact fun v hv => cal_reprA (X := X) H' φ' st1 Q [v] [dv] pr.1 pr.2 rs' (.cons hv .nil) e3 fun v2 φ2 H2 kx2 rs2 vd => q φ2 H2 (k1.trans (kx.trans kx2)) rs2 v2 vd
        | error er =>
          replace em : (match er.fs, kw.lookup er.n with
            | [], some wd => if wd.length ≤ 1000 ∧ wd ≠ Str.ofString "many" then some ((Except.ok (.str (saidT wd)) : Except Er D), st1) else none
            | _, _ => none) = some (r, st') := em
          split at em
          · rename_i wd hfs hlk
            split at em
            · rename_i hc
              cases em
              have hmem := lookup_mem hlk
              refine fly_of (E := fun cls d H2 => wAs X.K (.ref (clsA X.K "PickError")) 1 (tsS X.K kw) (fun _ _ _ _ => False) { nx := fun _ H' => Q .non H', rt := Q } cls d (L2.start Nsaid [.ref f]) H2) hfs ⟨true, (d.kn _ _ hmem).p, fun _ a ha => ⟨er.n, wd, hmem, rfl, rfl, [some (.cls f), some (.cls a), none], st', φ', ⟨rfl, fun i dd hi => ?_⟩, rs', _, _, _, bSuite_run hc.1 hc.2, fun φ2 H2 kx2 rs2 v hv => ?_⟩, fun h => by cases h⟩
              · match i, hi with
                | 0, hi => cases hi; exact ⟨.ref f, rfl, .cls⟩
                | 1, hi => cases hi; exact ⟨.ref a, rfl, .cls⟩
                | 2, hi => cases hi
                | i + 3, hi => simp at hi
              · exact q φ2 H2 (k1.trans (kx.trans kx2)) rs2 v hv
            · cases em
          · cases em
  · match res, z with
    | .error e, z => exact (show False from z).elim
    | .ok (.ret u), z => exact I1.after z
end
end M2
set_option Elab.async false
set_option linter.all false
set_option maxRecDepth 100000
set_option maxHeartbeats 4000000
namespace M2
open PySem PySem.Spec PyProof.Rows L2
open Classical
section
variable [Tb]
theorem ds_raiseK {X : Cx} {E : XK} {x m : Str} {j : Nat} {p p2 pos pos2 : Pos} (kn : Knd X.K x) (hm : X.mg x = some (.ref (clsA X.K x))) (hc : X.calm = true) (tk : Takes X fun cls d _ H => E cls d H) (hg : Gl X x) (hd : (x == ("__debug__" : Str)) = false) :
    DS1 X E (.Raise (some (.Call (.Name x p) [.Constant (.str m) j p2] [] pos)) none pos2) (sRaise x) :=
  ds_raise hc tk (pmk_own PySem.F.excBase_ValueError kn.q hm kn.kp (raises_own kn.b kn.t) hg hd)
end
/-! ### the law's end, with tables of code objects -/
section
variable {P : Program} {w : World} {K : PySem.W.Frag} {mg mb : Str → Option Value} {k : Nat} {fa a : Addr} {fd : FuncData} {x : Str} {sp : Sp} {s1 : Shared} {us : List Value} {ns : List Int} {cs : List (Addr × Addr)}
abbrev tab0 : Obj := { cls := .none, data := .fields #[] }
def inT (cs : List (Addr × Addr)) (b : Addr) : Prop := ∃ p ∈ cs, p.2 = b
structure TabsOk (K : PySem.W.Frag) (mg : Str → Option Value) (h : Heap) (cs : List (Addr × Addr)) : Prop where
  e : ∀ p ∈ cs, h.get? p.2 = some tab0
  n : ∀ p ∈ cs, K.lookup p.2 = none
  c : ∀ p ∈ cs, PySem.W.CodeHd h p.1 p.2
  b : ∃ (bm : Addr) (ob : Obj), mg "__builtins__" = some (.ref bm) ∧ bm ≠ builtinsNs ∧ h.get? bm = some ob ∧ ob.cls = .type "module" ∧ ob.dict = some builtinsNs ∧ ob.data = .plain
theorem TabsOk.at {h : Heap} (T : TabsOk K mg h cs) {b : Addr} (hb : inT cs b) : h.get? b = some tab0 := by
  obtain ⟨p, hp, rfl⟩ := hb
  exact T.e p hp
/-- from an abstract heap that tracks the script at most, and the tables -/
theorem law_fromT (inK : K.In s1.heap) (nm : s1.heap.Ns mainGlobals mg) (nb : s1.heap.Ns builtinsNs mb) (eb : ∀ y : Str, y ≠ "__name__" → mb y = bootBuiltins y) (nl : s1.heap.NoLimit) (ng : s1.gens = #[])
    (at_a : s1.heap.get? a = some { cls := .type "list", data := .seq us.toArray }) (room : Room k callerA) (T : TabsOk K mg s1.heap cs)
    (F : ∀ bs : Heap, K.In bs → bs.Ns mainGlobals mg → (∀ p ∈ cs, LamX.TabB bs mg p.1 p.2) → FnG P w K mg bs (L2.CX P w) k fa fd [x] sp) (bnds : ∀ (s : Shared) (u : Value), BindsTo s fd ⟨[u], []⟩ [(x, u)])
    (H : Hp) (only : ∀ b, H b = none ∨ inT cs b ∨ ∃ o xs, H b = some (.frz o (.lst xs))) (ok : HOk P w H s1.heap) (atH : ∀ b, H b ≠ none → b = a ∨ inT cs b) (tbl : ∀ b, inT cs b → H b = some (.tbl #[])) (offK : H a ≠ none → K.lookup a = none) (want : sp [.ref a] H (fun v _ => v = .bl true) fun _ _ _ => False) :
    codeAny (model P w) callerA (.call (.ref fa) ⟨[.ref a], []⟩) (LawEnd s1) s1 := by
  have hid : ∀ {b : Addr} {o : Obj}, s1.heap.get? b = some o → b ≠ a → o ≠ tab0 → (hidT s1.heap H).get? b = some o := fun {b o} e n n2 => hidT_get e (by
    cases z : H b with
    | none => rfl
    | some u =>
      rcases atH b (by rw [z]; exact fun q => nomatch q) with y | y
      · exact absurd y n
      · rw [T.at y] at e; cases e; exact absurd rfl n2)
  have nota : ∀ {b : Addr} {o : Obj}, s1.heap.get? b = some o → o.cls ≠ .type "list" → b ≠ a := fun {b o} e n z => by
    rw [z, at_a] at e; cases e; exact n rfl
  have names : ∀ {b : Addr} {m : Str → Option Value}, s1.heap.Ns b m → (hidT s1.heap H).Ns b m := by
    rintro b m ⟨o, es, ep, e, d, r⟩
    refine ⟨o, es, ep, hid e (fun z => ?_) (fun z => ?_), d, r⟩
    · rw [z, at_a] at e
      cases e
      exact Data.noConfusion d
    · rw [z] at d
      exact Data.noConfusion d
  have kin : K.In (hidT s1.heap H) := fun b o e => by
    refine hidT_get (inK b o e) ?_
    cases y : H b with
    | none => rfl
    | some u =>
      rcases atH b (by rw [y]; exact fun q => nomatch q) with z | z
      · subst z
        have := offK (by rw [y]; exact fun q => nomatch q)
        rw [this] at e; cases e
      · obtain ⟨p, hp, rfl⟩ := z
        rw [T.n p hp] at e; cases e
  have md : Mod K mg (hidT s1.heap H) := by
    obtain ⟨mc, l1, l2⟩ := nl
    exact ⟨kin, names nm, ⟨mb, names nb, eb⟩, mc, names l1, l2⟩
  have tb : ∀ p ∈ cs, LamX.TabB (hidT s1.heap H) mg p.1 p.2 := fun p hp => by
    refine ⟨?_, ?_, fun z => ?_⟩
    · obtain ⟨o, vs, fl, tf, fg, tg, ib, tx, tt, e1, r1, r2, r3, rest⟩ := T.c p hp
      refine ⟨o, vs, fl, tf, fg, tg, ib, tx, tt, hid e1 (nota e1 (by rw [r1]; decide)) (fun z => ?_), r1, r2, r3, rest⟩
      rw [z] at r1; cases r1
    · obtain ⟨bm, ob, b1, b2, b3, b4, b5, b6⟩ := T.b
      refine ⟨bm, ob, b1, b2, fun z => ?_, fun z => ?_, hid b3 (nota b3 (by rw [b4]; decide)) (fun z => ?_), b4, b5, b6⟩
      · obtain ⟨o, es, ep, e, d, _⟩ := nm
        rw [z, e] at b3; cases b3
        rw [d] at b6; cases b6
      · rw [z, T.e p hp] at b3; cases b3; cases b6
      · rw [z] at b4; cases b4
    · obtain ⟨o, es, ep, e, d, _⟩ := nm
      rw [z, T.e p hp] at e; cases e; cases d
  have en0 : Env0 P w K mg (hidT s1.heap H) callerA [] s1 H :=
    { frames := rfl, mod := md, bs := fun b o e => of_hidT e, bsz := Nat.le_of_eq (hidT_size _ _), funs := trivial, frf := fun b z => absurd (show b ∈ ([] : List Addr) from z) (by simp), hok := ok, bare := .of_eq ng }
  refine codeAny_mono ((F _ kin (names nm) tb).run callerA [] s1 H ⟨[.ref a], []⟩ [.ref a] [.ref a] _ _ rfl room en0 (bnds s1 (.ref a)) (.cons rfl .nil) want) fun r s2 z => ?_
  match r, z with
  | .error e, ⟨_, _, _, _, _, _, _, _, _, _, _, _, no⟩ => exact no.elim
  | .ok (.ret u), ⟨v, H2, os2, bare2, un2, ok2, rel, isT⟩ =>
    subst isT
    cases rel
    have key : ∀ b o, s1.heap.get? b = some o → ¬ inT cs b → s2.heap.get? b = some o := fun b o e nt => by
      rcases only b with z | z | ⟨ob, xs, z⟩
      · exact un2.keep b o e z (fun y => absurd (show b ∈ ([] : List Addr) from y) (by simp)) (by simp)
      · exact absurd z nt
      · have e1 := (ok b _ z).1
        have e2 := (ok2 b _ (un2.frzs b ob _ z)).1
        rw [e] at e1
        rw [e2, ← e1]
    have grown : ∀ b, inT cs b → ∃ more : Array Value, s2.heap.get? b = some { cls := .none, data := .fields more } := fun b hb => by
      obtain ⟨more, y⟩ := un2.tbls b #[] (tbl b hb)
      exact ⟨_, ok2 b _ y⟩
    refine ⟨rfl, ⟨fun b o e => ?_, fun b o e => ?_⟩, os2, bare2⟩
    · by_cases hb : inT cs b
      · obtain ⟨more, hm⟩ := grown b hb
        obtain ⟨p, hp, rfl⟩ := hb
        rw [T.e p hp] at e
        cases e
        exact .inr (.inl ⟨((T.c p hp).tab (T.e p hp)).isCodeTable, rfl, #[], more, rfl, by rw [Array.empty_append]; exact hm⟩)
      · exact .inl (key b o e hb)
    · by_cases hb : inT cs b
      · obtain ⟨more, hm⟩ := grown b hb
        exact ⟨_, hm⟩
      · exact ⟨o, key b o e hb⟩
theorem law_GT (inK : K.In s1.heap) (nm : s1.heap.Ns mainGlobals mg) (nb : s1.heap.Ns builtinsNs mb) (eb : ∀ y : Str, y ≠ "__name__" → mb y = bootBuiltins y) (nl : s1.heap.NoLimit) (ng : s1.gens = #[])
    (at_a : s1.heap.get? a = some { cls := .type "list", data := .seq us.toArray }) (are : IntsAre us ns) (few : ns.length ≤ sizeLine) (room : Room k callerA) (T : TabsOk K mg s1.heap cs)
    (F : ∀ bs : Heap, K.In bs → bs.Ns mainGlobals mg → (∀ p ∈ cs, LamX.TabB bs mg p.1 p.2) → FnG P w K mg bs (L2.CX P w) k fa fd [x] sp) (bnds : ∀ (s : Shared) (u : Value), BindsTo s fd ⟨[u], []⟩ [(x, u)])
    (want : ∀ H : Hp, (∀ b, inT cs b → H b = some (.tbl #[])) → SqR K H a (ns.map V.int) → sp [.ref a] H (fun v _ => v = .bl true) fun _ _ _ => False) :
    codeAny (model P w) callerA (.call (.ref fa) ⟨[.ref a], []⟩) (LawEnd s1) s1 := by
  have rel := vals_ints are
  have na : ¬ inT cs a := fun z => by
    have e := T.at z
    rw [at_a] at e; cases e
  have tob : ∀ b o, (if inT cs b then some (HO.tbl #[]) else none) = some o → inT cs b ∧ o = .tbl #[] := fun b o y => by
    split at y
    · rename_i h
      cases y
      exact ⟨h, rfl⟩
    · cases y
  cases z : K.lookup a with
  | some o =>
    have e := inK a o z
    rw [at_a] at e
    cases e
    have tb1 : ∀ b, inT cs b → (if inT cs b then some (HO.tbl #[]) else none) = some (HO.tbl #[]) := fun b h => if_pos h
    refine law_fromT (cs := cs) inK nm nb eb nl ng at_a room T F bnds (fun b => if inT cs b then some (.tbl #[]) else none) (fun b => ?_) (fun b u y => ?_) (fun b y => ?_) tb1 (fun y => absurd (if_neg na) y)
      (want _ tb1 (.inr ⟨_, us.toArray, _, z, rfl, rfl, rfl, by rw [List.size_toArray, are.length]; exact few, by simpa using rel⟩))
    · by_cases h : inT cs b
      · exact .inr (.inl h)
      · exact .inl (if_neg h)
    · obtain ⟨h1, rfl⟩ := tob b u y
      exact T.at h1
    · by_cases h : inT cs b
      · exact .inr h
      · exact absurd (if_neg h) y
  | none =>
    have tb1 : ∀ b, inT cs b → (if b = a then some (HO.frz { cls := .type "list", data := .seq us.toArray } (.lst (ns.map V.int))) else if inT cs b then some (HO.tbl #[]) else none) = some (HO.tbl #[]) := fun b h => by
      rw [if_neg (fun (y : b = a) => na (y ▸ h)), if_pos h]
    refine law_fromT (cs := cs) inK nm nb eb nl ng at_a room T F bnds (fun b => if b = a then some (.frz { cls := .type "list", data := .seq us.toArray } (.lst (ns.map V.int))) else if inT cs b then some (.tbl #[]) else none) (fun b => ?_) (fun b u y => ?_) (fun b y => ?_) tb1 (fun _ => z)
      (want _ tb1 (.inl ⟨_, if_pos rfl⟩))
    · by_cases h : b = a
      · exact .inr (.inr ⟨_, _, if_pos h⟩)
      · by_cases h2 : inT cs b
        · exact .inr (.inl h2)
        · exact .inl (by rw [if_neg h, if_neg h2])
    · dsimp only at y
      by_cases h : b = a
      · rw [if_pos h] at y
        cases y
        subst h
        exact ⟨at_a, by rw [List.length_map]; exact few, us, _, rel, at_a⟩
      · rw [if_neg h] at y
        obtain ⟨h1, rfl⟩ := tob b u y
        exact T.at h1
    · by_cases h : b = a
      · exact .inl h
      · by_cases h2 : inT cs b
        · exact .inr h2
        · exact absurd (by rw [if_neg h, if_neg h2]) y
end
theorem walk_GT {l : PySem.W.OpenLaw} {n k : Nat} {q : Program} {loose : List Str} {XP : (Str → Option Value) → Heap → Prop} {YP : World → Heap → Prop} {d : DefRec} {K : Params → PySem.W.Frag} {sp : World → Sp} {x : Str} {ts : List Addr}
    (hn : l.most = some n) (n2 : n ≤ sizeLine) (noD : d.params.defaults = []) (room : Room k callerA) (hY : ∀ (w : World) (h : Heap), YP w h → (K w.params).In h ∧ ∀ P ∈ ts, h.get? P = some (PySem.W.tabObj #[]))
    (F : ∀ (w : World) (mg : Str → Option Value) (fa : Addr) (h : Heap), (K w.params).In h → h.Ns mainGlobals mg → mg d.name = some (.ref fa) →
      ∃ (fd : FuncData) (cs : List (Addr × Addr)), (∀ p ∈ cs, p.2 ∈ ts ∧ (K w.params).lookup p.2 = none ∧ PySem.W.codeHdIn (K w.params) p.1 p.2 = true) ∧ (∀ (s : Shared) (u : Value), BindsTo s fd ⟨[u], []⟩ [(x, u)]) ∧
        (∀ (H : Hp) (a : Addr) (ns : List Int), ns.length ≤ n → (∀ b, inT cs b → H b = some (.tbl #[])) → SqR (K w.params) H a (ns.map V.int) → sp w [.ref a] H (fun v _ => v = .bl true) fun _ _ _ => False) ∧
        ∀ bs : Heap, (K w.params).In bs → bs.Ns mainGlobals mg → (∀ p ∈ cs, LamX.TabB bs mg p.1 p.2) → FnG l.prog w (K w.params) mg bs (L2.CX l.prog w) k fa fd [x] (sp w)) :
    PySem.W.WalkO q loose XP YP l.row.toRowW d [] (fun f vs => PySem.call f vs) := by
  refine Att.attach_call hn noD fun w s0 s1 mg mb fa o pm cd doc a us ns G Y ho hd hcd hmg hobj are few hg => ?_
  obtain ⟨KX, hts⟩ := hY w _ Y
  obtain ⟨fd, cs, hc, bnds, want, hF⟩ := F w mg fa _ KX G.T.g hmg
  exact law_GT KX G.T.g G.T.b G.T.builtins G.T.nolimit hg hobj are (Nat.le_trans few n2) room ⟨fun p hp => hts _ (hc p hp).1, fun p hp => (hc p hp).2.1, fun p hp => PySem.W.codeHd_of_K KX (hc p hp).2.2, G.T.bmain⟩ hF bnds fun H h1 h2 => want H a ns few h1 h2
end M2
set_option Elab.async false
set_option linter.all false
set_option maxRecDepth 100000
set_option maxHeartbeats 2000000
namespace PySem
open PySem.Calls
/-! min(xs, default=d) of an iterator's values -/
section
variable {prog : Program} {w : World} {A : Around} {R : Result → Shared → Prop} {I S : Addr} {fp wr : List Addr} {n : Nat} {P : Nat → Value → Prop} {St : Nat → Heap → Prop} {bt : Nat → Nat → Bool} {d : Value}
theorem minD_loop (W : Walks prog w A.in1 I fp wr n P St) (cmp : CmpOf prog w A.in1 .Lt P bt) (sf : S ∉ fp) (m : Nat) : ∀ (i : Nat) (s : Shared) (old : List Value) (c : Nat), n - i = m → i ≤ n → St i s.heap → BestOf P bt i old →
    s.heap.get? S = some { cls := .type "list", dict := none, data := .seq old.toArray c, slots := #[] } →
    (∀ v h' tk, ((n = 0 ∧ v = d) ∨ ∃ j, n = j + 1 ∧ P (argBest bt j) v) → (∀ b o, b ∉ wr → b ≠ S → s.heap.get? b = some o → h'.get? b = some o) → R (.ok (.ret v)) { s with heap := h', toks := tk }) →
    codeAny (model prog w) A (.builtin "min.loop" ⟨[.ref I, .none, .ref S], [(Str.ofString "default", d)]⟩) R s := by
  have sw : S ∉ wr := fun h => sf (W.sub _ h)
  have nm : (toString "min" ++ toString ".loop" : String) = "min.loop" := by decide
  induction m with
  | zero =>
    intro i s old c hk hi hst hb hS hR
    have hin : i = n := by omega
    subst hin
    refine codeAny_builtin F.entry_min_loop ?_
    rw [Around.under_plainId F.plain_min_loop _]
    show wpAny _ A.in1 (seqItems? (.ref S) >>= _) _ _ s
    refine wpAny_bind (wpAny_seqItems hS rfl ?_)
    show wpAny _ A.in1 (tryCatch (pyNext (.ref I)) _ >>= _) _ _ s
    refine wpAny_bind (wpAny_tryCatch (W.done s _ _ hst fun h' tk kp => ?_))
    have hS' := kp S _ sw hS
    rcases hb with ⟨e1, e2⟩ | ⟨vb, j, e1, e2, hP⟩
    · subst e2
      show wpAny _ A.in1 (rule _ >>= _) _ _ _
      refine wpAny_bind (wpAny_rule (wpAny_pure ?_))
      exact hR d h' tk (.inl ⟨e1, rfl⟩) fun b o h1 h2 e => kp b o h1 e
    · subst e2
      show wpAny _ A.in1 (updateSeq S (fun _ => #[]) >>= _) _ _ _
      refine wpAny_bind ?_
      refine wpAny_updateSeq hS' rfl (wpAny_bind (wpAny_letGo (wpAny_pure ?_)))
      exact hR vb _ tk (.inr ⟨j, e1, hP⟩) fun b o h1 h2 e => (Heap.get?_update_other _ _ (Ne.symm h2)).trans (kp b o h1 e)
  | succ m ih =>
    intro i s old c hk hi hst hb hS hR
    have hlt : i < n := by omega
    refine codeAny_builtin F.entry_min_loop ?_
    rw [Around.under_plainId F.plain_min_loop _]
    show wpAny _ A.in1 (seqItems? (.ref S) >>= _) _ _ s
    refine wpAny_bind (wpAny_seqItems hS rfl ?_)
    show wpAny _ A.in1 (tryCatch (pyNext (.ref I)) _ >>= _) _ _ s
    refine wpAny_bind (wpAny_tryCatch (W.item i s _ _ hlt hst fun v h' tk hP st1 kp => ?_))
    have hS' := kp S _ sw hS
    rcases hb with ⟨e1, e2⟩ | ⟨vb, j, e1, e2, hB⟩
    · subst e2
      show wpAny _ A.in1 (updateSeq S (fun _ => #[v, v]) >>= _) _ _ _
      refine wpAny_bind ?_
      refine wpAny_updateSeq hS' rfl ?_
      rw [nm]
      refine wpAny_pure ⟨plainId_quiet F.plain_min_loop _, ih (i + 1) _ [v, v] _ (by omega) hlt (W.frame _ _ _ st1 fun b hbf o e => ?_) (.inr ⟨v, i, rfl, rfl, by rw [e1] at hP ⊢; exact hP⟩) (Heap.get?_update_self _ hS' rfl) fun v' h2 tk2 hv k2 => ?_⟩
      · exact (Heap.get?_update_other _ _ (fun h : S = b => sf (by rw [h]; exact hbf))).trans e
      · exact hR v' h2 tk2 hv fun b o h1 h3 e => k2 b o h1 h3 ((Heap.get?_update_other _ _ (Ne.symm h3)).trans (kp b o h1 e))
    · subst e2
      show wpAny _ A.in1 (tryCatch (holding [v, v] (richCompare .Lt v vb >>= _)) _ >>= _) _ _ _
      refine wpAny_bind (wpAny_tryCatch (wpAny_holding (wpAny_bind (cmp i (argBest bt j) v vb _ _ _ hP hB ?_))))
      refine wpAny_bind (wpAny_holding (wpAny_truthy_bool ?_))
      refine wpAny_bind (wpAny_letGo (wpAny_pure ?_))
      cases hc : bt i (argBest bt j) with
      | true =>
        simp only [if_true]
        refine wpAny_bind ?_
        refine wpAny_updateSeq hS' rfl (wpAny_bind (wpAny_letGo ?_))
        rw [nm]
        refine wpAny_pure ⟨plainId_quiet F.plain_min_loop _, ih (i + 1) _ [v, v] _ (by omega) hlt (W.frame _ _ _ st1 fun b hbf o e => ?_) (.inr ⟨v, i, rfl, rfl, by subst e1; simp only [argBest, hc, if_true]; exact hP⟩) (Heap.get?_update_self _ hS' rfl) fun v' h2 tk2 hv k2 => ?_⟩
        · exact (Heap.get?_update_other _ _ (fun h : S = b => sf (by rw [h]; exact hbf))).trans e
        · exact hR v' h2 tk2 hv fun b o h1 h3 e => k2 b o h1 h3 ((Heap.get?_update_other _ _ (Ne.symm h3)).trans (kp b o h1 e))
      | false =>
        simp only [Bool.false_eq_true, if_false]
        refine wpAny_bind (wpAny_letGo ?_)
        rw [nm]
        refine wpAny_pure ⟨plainId_quiet F.plain_min_loop _, ih (i + 1) _ [vb, vb] c (by omega) hlt st1 (.inr ⟨vb, i, rfl, rfl, by subst e1; simp only [argBest, hc, Bool.false_eq_true, if_false]; exact hB⟩) hS' fun v' h2 tk2 hv k2 => ?_⟩
        exact hR v' h2 tk2 hv fun b o h1 h3 e => k2 b o h1 h3 (kp b o h1 e)
end
theorem F.args_minD (a d : Value) : argsOk "min" ⟨[a], [(Str.ofString "default", d)]⟩ := by unfold argsOk; kernel_rfl
section
variable {prog : Program} {w : World} {A : Around} {E : Value → Shared → Prop} {s : Shared}
theorem min_listD {l : Addr} {xs : Array (Int × Tok)} {d : Value} {Q : Value → Shared → Prop} (hh : A.handled = none) (hl : s.heap.IsList l (intItems xs))
    (h : ∀ v h' tk, ((xs.size = 0 ∧ v = d) ∨ ∃ j, xs.size = j + 1 ∧ (intItems xs)[argBest (fun i j => decide (numAt xs i < numAt xs j)) j]? = some v) → (∀ b o, s.heap.get? b = some o → h'.get? b = some o) → Q v { s with heap := h', toks := tk }) :
    wpAny (model prog w) A (call (.builtin "min") [.ref l] [(Str.ofString "default", d)]) Q E s := by
  refine kw_function F.kind_min F.plain_min F.entry_min (F.args_minD _ _) ?_
  show wpAny _ A.in1 (Builtin.Builtins.bindParams "min" ["key", "default"] 0 ⟨[], [(Str.ofString "default", d)]⟩ >>= _) _ _ s
  refine wpAny_bind (wpAny_of_eq (show Builtin.Builtins.bindParams "min" ["key", "default"] 0 ⟨[], [(Str.ofString "default", d)]⟩ = pure [none, some d] from rfl) ?_)
  refine wpAny_bind (wpAny_pure ?_)
  refine wpAny_bind (iter_intList hl fun s2 e st hfp ne => ?_)
  subst e
  have W := Walks.list (prog := prog) (w := w) (A := A.in1) hh s.heap.objs.size l ne (intItems xs)
  refine wpAny_bind (wpAny_newObj_type ?_)
  rw [show (toString "min" ++ toString ".loop" : String) = "min.loop" by decide]
  refine wpAny_pure ⟨plainId_quiet F.plain_min_loop _, minD_loop (n := (intItems xs).size) W (CmpOf.ints_lt (numAt xs) (fun _ _ => intItems_at)) (fun z => Nat.lt_irrefl _ (hfp _ z)) _ 0 _ [] _ rfl (Nat.zero_le _)
    (W.frame _ _ _ st fun b _ o e => Heap.get?_push_of_some _ e) (.inl ⟨rfl, rfl⟩) (Heap.get?_push_size _ rfl) fun v h' tk hv hk => ?_⟩
  refine h v h' tk (by simpa [intItems] using hv) fun b o e => ?_
  have e1 := Heap.get?_push_of_some { cls := .type "list_iterator", data := .fields #[.ref l, .int 0 0] } e
  have lb : b < s.heap.objs.size := Heap.lt_size e
  exact hk b o (fun z => by
    have y : b = s.heap.objs.size := by simpa using z
    exact absurd lb (by rw [y]; exact Nat.lt_irrefl _)) (fun z => by
    have y : b = s.heap.objs.size + 1 := by simpa [Heap.size_push] using z
    exact absurd lb (by rw [y]; exact Nat.not_lt.mpr (Nat.le_succ _))) (Heap.get?_push_of_some _ e1)
end
end PySem

namespace M2
open PySem PySem.Spec PyProof.Rows L2
variable [Tb]
def rMinDf (K : PySem.W.Frag) : List V → List V → Hp → VK → Prop := fun vs zs H Q => ∃ (a : Addr) (ns : List Int) (dv : V), vs = [V.ref a] ∧ zs = [dv] ∧ SqL K H a (ns.map V.int) ∧ (ns = [] → Q dv H) ∧ ∀ m ∈ ns, (∀ y ∈ ns, m ≤ y) → Q (.int m) H
theorem cr_minDf {X : Cx} (hc : X.calm = true) : CallRK X (.builtin "min") [Str.ofString "default"] (rMinDf X.K) := by
  intro pins s σ H vs zs us ws Q I r rz h
  obtain ⟨a, ns, dv, rfl, rfl, hs, q0, q⟩ := h
  obtain ⟨its, rv, hl, _⟩ := I.list hs
  rw [Vals.ref1 r]
  obtain ⟨wd, rfl, rd⟩ := rz.one
  have hi : IntsAre its ns := rv.ints
  obtain ⟨xs, e⟩ := hi.allInts.items
  have hn : numsOf (intItems xs).toList = ns := by rw [← e]; exact hi.numsOf
  rw [nums_intItems] at hn
  have hl' := hl.isList
  rw [e] at hl'
  refine min_listD (I.ok.hd hc) hl' fun v h' tk hv hk => ?_
  rcases hv with ⟨e0, rfl⟩ | ⟨j, ej, hj⟩
  · refine ⟨dv, H, I.kept hk, rd, q0 ?_⟩
    rw [← hn]
    have : xs.toList = [] := List.length_eq_zero_iff.mp (by rw [Array.length_toList]; exact e0)
    rw [this]; rfl
  · obtain ⟨t, rfl⟩ := intItems_at hj
    obtain ⟨h1, h2⟩ := argBest_lt (numAt xs) j
    refine ⟨.int _, H, I.kept hk, ⟨t, rfl⟩, q _ ?_ fun y hy => ?_⟩
    · rw [← hn, numAt_eq]
      exact PySem.getD_mem (by rw [List.length_map, Array.length_toList]; omega)
    · rw [← hn] at hy
      obtain ⟨i, hi2, rfl⟩ := mem_getD hy
      rw [List.length_map, Array.length_toList] at hi2
      rw [← numAt_eq]
      exact h2 i (by omega)
def fMinDf : List D → List D → Sto → Option (D × Sto) := fun ds es st => match ds, es with
  | [.mu l], [d] => ((st[l]?).bind intsD).map fun ns => (match minL ns with | some m => .int m | none => d, st)
  | _, _ => none
def mMinDf (m md : MM D) : MM D := bnd (mArgs [m]) fun ds => bnd (mArgs [md]) fun es => stm (fMinDf ds es)
theorem de_minDf {X : Cx} {E : XK} {p pos kpos : Pos} {e de : Expr} {me md : MM D} (hc : X.calm = true) (hg : Gl X "min") (hm : X.mg "min" = none) (he : DE X E e me) (hd : DE X E de md)
    (hpe : ∀ {t tk : TA}, PA X [e] t → PK X [⟨some (Str.ofString "default"), de, kpos⟩] tk → CallRK X (.builtin "min") [Str.ofString "default"] (rMinDf X.K) → PE X (.Call (.Name "min" p) [e] [⟨some (Str.ofString "default"), de, kpos⟩] pos) (tCKw (rMinDf X.K) t tk))
    (hs : starEach [e] X.env = (false, eval e X.env) :: starEach [] X.env) :
    DE X E (.Call (.Name "min" p) [e] [⟨some (Str.ofString "default"), de, kpos⟩] pos) (mMinDf me md) :=
  pe_imp (hpe (da_cons he da_nil hs) (pk_cons hd pk_nil) (cr_minDf hc)) fun σ H Q ⟨en, st, φ, g⟩ => ⟨en, st, φ, g.bind.imp fun st1 ds φ1 H1 _ _ ⟨k1, r1, g1⟩ vs hv => by
    refine ⟨en, st1, φ1, g1.bind.bind.imp fun st2 d φ2 H2 _ _ ⟨k2, r2, g2⟩ z hz => ?_⟩
    obtain ⟨_, _, g3⟩ := g2.bind.ret
    obtain ⟨_, _, g4⟩ := (show Gat X.K E (ret [d]) σ en st2 φ2 H2 _ from g2).ret
    obtain ⟨x, st3, e3, q⟩ := g4.stm
    unfold fMinDf at e3
    cases ds with
    | nil => cases e3
    | cons d0 r0 =>
      cases r0 with
      | cons _ _ => cases d0 <;> cases e3
      | nil =>
        cases d0 with
        | mu l =>
          cases e4 : st2[l]? with
          | none => simp only [e4] at e3; cases e3
          | some xs =>
            cases e5 : intsD xs with
            | none => simp only [e4, Option.bind_some, e5] at e3; cases e3
            | some ns =>
              simp only [e4, Option.bind_some, e5, Option.map_some] at e3
              cases e3
              obtain ⟨v, rfl, hv1⟩ := hv.one
              obtain ⟨a, rfl, ha⟩ := (hv1.mono k2).mutI
              obtain ⟨ws, g5, g6⟩ := r2.get l a xs ha e4
              rw [intsD_eq e5] at g6
              refine ⟨a, ns, z, rfl, rfl, by rw [← g6.ints]; exact .of g5, fun h0 => ?_, fun m hm hall => ?_⟩
              · subst h0
                exact q φ2 H2 .refl r2 z hz
              · cases e6 : minL ns with
                | none => cases ns with
                  | nil => cases hm
                  | cons _ _ => cases e6
                | some mm =>
                  rw [e6] at q
                  obtain ⟨m1, m2⟩ := minL_some e6
                  rw [show m = mm from Int.le_antisymm (hall mm m1) (m2 m hm)]
                  exact q φ2 H2 .refl r2 _ .int
        | _ => cases e3⟩
end M2
set_option Elab.async false
set_option linter.all false
set_option maxRecDepth 100000
set_option maxHeartbeats 4000000
namespace M2
open PySem PySem.Spec PyProof.Rows L2
open Classical
variable [Tb]
theorem huH {k : Nat} {A : Around} (hr : L2H.RoomH k A) : A.units + 64 < cLine := by have := hr.un; omega
theorem roomMk {k : Nat} {A : Around} {v : Option Value} (hr : Room (k + 1) A) : L2H.RoomH 1 (A.mark v) := (L2H.roomH_of (hr.mono (by omega)) : L2H.RoomH 1 A).rec fun a b => ⟨a, b⟩
theorem huMk {k : Nat} {A : Around} {v : Option Value} (hr : Room k A) : (A.mark v).units + 64 < cLine := by
  have := hr.un
  show A.units + 64 < cLine
  omega
theorem passM {X : Cx} {A : Around} {ou : List Env} {s : Shared} {H : Hp} {E : XK} {scope : Scope} {f c' : Addr} : Passes (L2.CX (LamX.lamCx X A ou s H E scope f c').prog (LamX.lamCx X A ou s H E scope f c').w) (LamX.lamCx X A ou s H E scope f c') E :=
  passes_call (takes_of rfl rfl rfl rfl) fun _ _ _ _ h => h
theorem cm_of {K : PySem.W.Frag} {h : Heap} {mg : Str → Option Value} {n : Str} {A : Addr} (X : K.In h) (G : h.Ns mainGlobals mg) (e : PySem.W.nsIn K mainGlobals n = some (some (.ref A))) : mg n = some (.ref (clsA K n)) := by
  rw [PySem.W.mg_of X G e]
  unfold clsA
  rw [e]
theorem cm_kn {K : PySem.W.Frag} {h : Heap} {mg : Str → Option Value} {n : Str} (X : K.In h) (G : h.Ns mainGlobals mg) (kn : Knd K n) : mg n = some (.ref (clsA K n)) := PySem.W.mg_of X G kn.g
theorem kns_of {K : PySem.W.Frag} {kw : List (Str × Str)} (h : kw.all (fun p => kndB K p.1) = true) : ∀ n wd, (n, wd) ∈ kw → Knd K n := fun n wd hm => knd_of (List.all_eq_true.mp h (n, wd) hm)
section
variable {X : Cx} {E : XK}
/-- the word asked for, of the exception that is handled -/
theorem de_kind {k : Nat} {kw : List (Str × Str)} {f : Addr} {fd : FuncData} {x px : Str} {a : Addr} {oe : Obj} {n wd : Str} {e : Expr} {me : MM D} {q pos : Pos} (hp : (a, oe) ∈ X.pn) (F : FnK X.prog X.w X.K X.mg X.base k f fd [px] (spK X.K kw)) (gd : X.A.guards = some []) (hr : L2H.RoomH k X.A)
    (hg : Gl X x) (hm : X.mg x = some (.ref f)) (hk : PySem.W.keepIn X.K (.ref f) = true) (hb : Binds X.K fd [px] []) (hn : (n, wd) ∈ kw) (hz : Zc (.ref (clsA X.K n)) none oe) (hf : ∃ us, oe.data = .fields us) (he : DE X E e me)
    (hdb : (x == ("__debug__" : Str)) = false) (hs : starEach [e] X.env = (false, eval e X.env) :: starEach [] X.env) : DE X E (.Call (.Name x q) [e] [] pos) (mKnd a wd (mArgs [me])) :=
  pe_imp (pe_callX hp F gd hr hg hm hk hb (da_cons he da_nil hs) hdb hs rfl) fun σ H Q ⟨en, st, φ, g⟩ => ⟨en, st, φ, g.bind.imp fun st1 ds φ1 H1 _ _ ⟨k1, r1, g1⟩ vs hv => by
    cases ds with
    | nil => exact absurd g1.lft (fun ⟨_, z, _⟩ => by cases z)
    | cons d ds =>
      cases ds with
      | cons d2 ds2 => cases d <;> exact absurd g1.lft (fun ⟨_, z, _⟩ => by cases z)
      | nil =>
        cases d with
        | cls b =>
          replace g1 : Gat X.K E (if b = a then ret (.str wd) else lft none) σ en st1 φ1 H1 (fun _ d φ' H' => ∀ v, VD X.K H' φ' v d → Q v H') := g1
          by_cases c : b = a
          · subst c
            rw [if_pos rfl] at g1
            obtain ⟨v, rfl, hv1⟩ := hv.one
            cases hv1
            obtain ⟨re, rs, r, st', em, q⟩ := g1
            cases em
            exact ⟨rfl, n, wd, hn, hz, hf, rfl, r1.tabs, fun H' kp t => q φ1 H' (kp.kx φ1) (r1.kp kp t) _ .str⟩
          · rw [if_neg c] at g1
            exact absurd g1.lft (fun ⟨_, z, _⟩ => by cases z)
        | _ => exact absurd g1.lft (fun ⟨_, z, _⟩ => by cases z)⟩
end
theorem type_lc : typeOf (.builtin "list.count") = pure (.type "method_descriptor") := by show builtinType _ = _; rw [builtinType_eq_fast]; kernel_rfl
theorem type_li : typeOf (.builtin "list.index") = pure (.type "method_descriptor") := by show builtinType _ = _; rw [builtinType_eq_fast]; kernel_rfl
/-! ### the end -/
theorem lawWalkT {l : PySem.W.OpenLaw} {q : Program} {loose : List Str} {XP : (Str → Option Value) → Heap → Prop} {YP : World → Heap → Prop} {d : DefRec} {K : Params → PySem.W.Frag} {ts : List Addr} {lv : Nat} (fl : FD)
    (hn : l.most = some 63) (noD : d.params.defaults = []) (room : Room lv callerA) (hY : ∀ (w : World) (h : Heap), YP w h → (K w.params).In h ∧ ∀ P ∈ ts, h.get? P = some (PySem.W.tabObj #[]))
    (main : ∀ ns : List Int, ns.length ≤ 63 → ∃ st', fl [.scr ns] [] = some (.ok (.bl true), st'))
    (F : ∀ (w : World) (mg : Str → Option Value) (fa : Addr) (h : Heap), (K w.params).In h → h.Ns mainGlobals mg → mg d.name = some (.ref fa) →
      ∃ (fd : FuncData) (cs : List (Addr × Addr)), (∀ p ∈ cs, p.2 ∈ ts ∧ (K w.params).lookup p.2 = none ∧ PySem.W.codeHdIn (K w.params) p.1 p.2 = true) ∧ (∀ t ∈ Tb.T, inT cs t.1) ∧ (∀ (s : Shared) (u : Value), BindsTo s fd ⟨[u], []⟩ [("_law_script", u)]) ∧
        ∀ bs : Heap, (K w.params).In bs → bs.Ns mainGlobals mg → (∀ p ∈ cs, LamX.TabB bs mg p.1 p.2) → FnG l.prog w (K w.params) mg bs (L2.CX l.prog w) lv fa fd ["_law_script"] (spF (K w.params) 1 fl)) :
    PySem.W.WalkO q loose XP YP l.row.toRowW d [] (fun f vs => PySem.call f vs) :=
  walk_GT (n := 63) (k := lv) (x := "_law_script") (sp := fun w => spF (K w.params) 1 fl) hn (by decide) noD room hY fun w mg fa h KX G hm => by
    obtain ⟨fd, cs, h1, h2, h3, h4⟩ := F w mg fa h KX G hm
    refine ⟨fd, cs, h1, h3, fun H a ns hl ht hS => ?_, h4⟩
    obtain ⟨st', e⟩ := main ns hl
    exact ⟨[.scr ns], [], [], _, st', .cons (.scr hS) .nil, rs_nil (fun t ht2 => LamX.TabS.nil (ht t.1 (h2 t ht2))), rfl, e, fun φ' H' _ _ v hv => by cases hv; rfl⟩
end M2
set_option Elab.async false
set_option linter.all false
set_option maxRecDepth 100000
set_option maxHeartbeats 4000000
namespace M2
open PySem PySem.Spec PyProof.Rows L2
open Classical
/-! ### the word for a class -/
def wordN : List Str := ["machine", "arities", "tree", "unspelled", "operator", "prices", "states", "form", "cover", "number", "numbers", "price", "forms", "endless", "others", "context", "nodes", "arguments", "unread", "undone", "place", "text", "line", "many"]
def kwB (n wd : Str) : Bool := decide ((clsNames.map (isaX n)).count true = 1) && (match ixB true (clsNames.map (isaX n)) with
  | some j => decide (wordN[j]? = some wd)
  | none => false)
variable [Tb]
theorem kw_all {kw : List (Str × Str)} {n wd : Str} (h : kw.all (fun p => kwB p.1 p.2) = true) (hm : (n, wd) ∈ kw) : kwB n wd = true := List.all_eq_true.mp h (n, wd) hm
@[simp] theorem u_isX (a : Addr) (n m : Str) (st : Sto) : fIsX a n [.cls a, .cln m] st = if clsNames.contains m = true then some (.bl (isaX n m), st) else none := by simp [fIsX]
@[simp] theorem u_isV (a : Addr) (n : Str) (st : Sto) : fIsX a n [.cls a, .ty "ValueError"] st = some (.bl true, st) := by simp [fIsX]
@[simp] theorem u_mMt (f : Nat → List D → Sto → Option (D × Sto)) (ml mv : MM D) (en : En) (st : Sto) : mMt f ml mv en st = (bnd ml fun d => bnd (lft (locD d)) fun l => bnd (mArgs [mv]) fun vs => stm (f l vs)) en st := rfl
noncomputable def bKind (a : Addr) (n : Str) : MS :=
    (sSeq (sAsg (mLst [(mBlt (fIsX a n) (mArgs [(mVar 0), (ret (.cln "NoMachine"))])), (mBlt (fIsX a n) (mArgs [(mVar 0), (ret (.cln "NoArities"))])), (mBlt (fIsX a n) (mArgs [(mVar 0), (ret (.cln "NoTree"))]))]) (setN 1))
    (sSeq (sAsg (mOp fAddB (mVar 1) (mLst [(mBlt (fIsX a n) (mArgs [(mVar 0), (ret (.cln "Unspelled"))])), (mBlt (fIsX a n) (mArgs [(mVar 0), (ret (.cln "NoOperator"))])), (mBlt (fIsX a n) (mArgs [(mVar 0), (ret (.cln "NoPrices"))]))])) (setN 1))
    (sSeq (sAsg (mOp fAddB (mVar 1) (mLst [(mBlt (fIsX a n) (mArgs [(mVar 0), (ret (.cln "NoStates"))])), (mBlt (fIsX a n) (mArgs [(mVar 0), (ret (.cln "NoForm"))])), (mBlt (fIsX a n) (mArgs [(mVar 0), (ret (.cln "NoCover"))]))])) (setN 1))
    (sSeq (sAsg (mOp fAddB (mVar 1) (mLst [(mBlt (fIsX a n) (mArgs [(mVar 0), (ret (.cln "NoNumber"))])), (mBlt (fIsX a n) (mArgs [(mVar 0), (ret (.cln "NoNumbers"))])), (mBlt (fIsX a n) (mArgs [(mVar 0), (ret (.cln "NoPrice"))]))])) (setN 1))
    (sSeq (sAsg (mOp fAddB (mVar 1) (mLst [(mBlt (fIsX a n) (mArgs [(mVar 0), (ret (.cln "ManyForms"))])), (mBlt (fIsX a n) (mArgs [(mVar 0), (ret (.cln "Endless"))]))])) (setN 1))
    (sSeq (sAsg (mOp fAddB (mVar 1) (mLst [(mBlt (fIsX a n) (mArgs [(mVar 0), (ret (.cln "OtherArities"))])), (mBlt (fIsX a n) (mArgs [(mVar 0), (ret (.cln "NoContext"))]))])) (setN 1))
    (sSeq (sAsg (mOp fAddB (mVar 1) (mLst [(mBlt (fIsX a n) (mArgs [(mVar 0), (ret (.cln "NoNodes"))])), (mBlt (fIsX a n) (mArgs [(mVar 0), (ret (.cln "NoArguments"))])), (mBlt (fIsX a n) (mArgs [(mVar 0), (ret (.cln "NothingRead"))]))])) (setN 1))
    (sSeq (sAsg (mOp fAddB (mVar 1) (mLst [(mBlt (fIsX a n) (mArgs [(mVar 0), (ret (.cln "NothingDone"))])), (mBlt (fIsX a n) (mArgs [(mVar 0), (ret (.cln "NoPlace"))])), (mBlt (fIsX a n) (mArgs [(mVar 0), (ret (.cln "NoText"))]))])) (setN 1))
    (sSeq (sAsg (mOp fAddB (mVar 1) (mLst [(mBlt (fIsX a n) (mArgs [(mVar 0), (ret (.cln "BadLine"))])), (mBlt (fIsX a n) (mArgs [(mVar 0), (ret (.cln "TooMany"))]))])) (setN 1))
    (sSeq (sAsg (mLst [(ret (.str (Str.ofString "machine"))), (ret (.str (Str.ofString "arities"))), (ret (.str (Str.ofString "tree"))), (ret (.str (Str.ofString "unspelled"))), (ret (.str (Str.ofString "operator"))), (ret (.str (Str.ofString "prices"))), (ret (.str (Str.ofString "states"))), (ret (.str (Str.ofString "form"))), (ret (.str (Str.ofString "cover")))]) (setN 2))
    (sSeq (sAsg (mOp fAddB (mVar 2) (mLst [(ret (.str (Str.ofString "number"))), (ret (.str (Str.ofString "numbers"))), (ret (.str (Str.ofString "price"))), (ret (.str (Str.ofString "forms"))), (ret (.str (Str.ofString "endless"))), (ret (.str (Str.ofString "others"))), (ret (.str (Str.ofString "context"))), (ret (.str (Str.ofString "nodes")))])) (setN 2))
    (sSeq (sAsg (mOp fAddB (mVar 2) (mLst [(ret (.str (Str.ofString "arguments"))), (ret (.str (Str.ofString "unread"))), (ret (.str (Str.ofString "undone"))), (ret (.str (Str.ofString "place"))), (ret (.str (Str.ofString "text"))), (ret (.str (Str.ofString "line"))), (ret (.str (Str.ofString "many")))])) (setN 2))
    (sSeq (sIf (mOr (mB (mOp fNeA (mMt fCntB (mVar 1) (ret (.bl true))) (ret (.int 1)))) (mNot (mTru (mBlt (fIsX a n) (mArgs [(mVar 0), (ret (.ty "ValueError"))]))))) (sSeq (sRet (ret (.str (Str.ofString "other"))))
    sNx) sNx)
    (sSeq (sRet (mOp fIx (mVar 2) (mMt fIdxB (mVar 1) (ret (.bl true)))))
    sNx))))))))))))))
theorem kc_NoMachine : ("NoMachine" : Str) ∈ clsNames := List.contains_iff_mem.mp (by decide +kernel)
theorem kc_NoArities : ("NoArities" : Str) ∈ clsNames := List.contains_iff_mem.mp (by decide +kernel)
theorem kc_NoTree : ("NoTree" : Str) ∈ clsNames := List.contains_iff_mem.mp (by decide +kernel)
theorem kc_Unspelled : ("Unspelled" : Str) ∈ clsNames := List.contains_iff_mem.mp (by decide +kernel)
theorem kc_NoOperator : ("NoOperator" : Str) ∈ clsNames := List.contains_iff_mem.mp (by decide +kernel)
theorem kc_NoPrices : ("NoPrices" : Str) ∈ clsNames := List.contains_iff_mem.mp (by decide +kernel)
theorem kc_NoStates : ("NoStates" : Str) ∈ clsNames := List.contains_iff_mem.mp (by decide +kernel)
theorem kc_NoForm : ("NoForm" : Str) ∈ clsNames := List.contains_iff_mem.mp (by decide +kernel)
theorem kc_NoCover : ("NoCover" : Str) ∈ clsNames := List.contains_iff_mem.mp (by decide +kernel)
theorem kc_NoNumber : ("NoNumber" : Str) ∈ clsNames := List.contains_iff_mem.mp (by decide +kernel)
theorem kc_NoNumbers : ("NoNumbers" : Str) ∈ clsNames := List.contains_iff_mem.mp (by decide +kernel)
theorem kc_NoPrice : ("NoPrice" : Str) ∈ clsNames := List.contains_iff_mem.mp (by decide +kernel)
theorem kc_ManyForms : ("ManyForms" : Str) ∈ clsNames := List.contains_iff_mem.mp (by decide +kernel)
theorem kc_Endless : ("Endless" : Str) ∈ clsNames := List.contains_iff_mem.mp (by decide +kernel)
theorem kc_OtherArities : ("OtherArities" : Str) ∈ clsNames := List.contains_iff_mem.mp (by decide +kernel)
theorem kc_NoContext : ("NoContext" : Str) ∈ clsNames := List.contains_iff_mem.mp (by decide +kernel)
theorem kc_NoNodes : ("NoNodes" : Str) ∈ clsNames := List.contains_iff_mem.mp (by decide +kernel)
theorem kc_NoArguments : ("NoArguments" : Str) ∈ clsNames := List.contains_iff_mem.mp (by decide +kernel)
theorem kc_NothingRead : ("NothingRead" : Str) ∈ clsNames := List.contains_iff_mem.mp (by decide +kernel)
theorem kc_NothingDone : ("NothingDone" : Str) ∈ clsNames := List.contains_iff_mem.mp (by decide +kernel)
theorem kc_NoPlace : ("NoPlace" : Str) ∈ clsNames := List.contains_iff_mem.mp (by decide +kernel)
theorem kc_NoText : ("NoText" : Str) ∈ clsNames := List.contains_iff_mem.mp (by decide +kernel)
theorem kc_BadLine : ("BadLine" : Str) ∈ clsNames := List.contains_iff_mem.mp (by decide +kernel)
theorem kc_TooMany : ("TooMany" : Str) ∈ clsNames := List.contains_iff_mem.mp (by decide +kernel)
@[simp] theorem u_bls0 : blsD [] = some [] := rfl
@[simp] theorem u_bls1 (b : Bool) (r : List D) : blsD (.bl b :: r) = (blsD r).map (b :: ·) := rfl
theorem ev_kind (n wd : Str) (h : kwB n wd = true) (a : Addr) : ∃ st', runF 3 (bKind a n) [.cls a] [] = some (.ok (.str wd), st') := by
  unfold kwB at h
  rw [Bool.and_eq_true, decide_eq_true_eq] at h
  obtain ⟨h1, h2⟩ := h
  split at h2
  · rename_i j hj
    have h3 := of_decide_eq_true h2
    simp only [clsNames, List.map] at h1 hj
    have h4 : atI (wordN.map D.str) ((j : Nat) : Int) = some (D.str wd) := atI_ok (by omega) (by rw [Int.toNat_natCast, List.getElem?_map, h3]; rfl)
    simp only [wordN, List.map] at h4
    simp [bKind, u_addM, envOf, locD, fCntB, fIdxB, onBls, h1, hj, kc_NoMachine, kc_NoArities, kc_NoTree, kc_Unspelled, kc_NoOperator, kc_NoPrices, kc_NoStates, kc_NoForm, kc_NoCover, kc_NoNumber, kc_NoNumbers, kc_NoPrice, kc_ManyForms, kc_Endless, kc_OtherArities, kc_NoContext, kc_NoNodes, kc_NoArguments, kc_NothingRead, kc_NothingDone, kc_NoPlace, kc_NoText, kc_BadLine, kc_TooMany]
    simp [h4]
  · cases h2
end M2
set_option Elab.async false
set_option linter.all false
set_option maxRecDepth 100000
set_option maxHeartbeats 4000000
namespace M2
open PySem PySem.Spec PyProof.Rows L2
variable [Tb]
/-! ### is True, is not True -/
def fIsB : FD2 := fun x y st => match x, y with
  | .bl a, .bl b => some (.bl (decide (a = b)), st)
  | _, _ => none
def fNotB : FD2 := fun x y st => match x, y with
  | .bl a, .bl b => some (.bl (!decide (a = b)), st)
  | _, _ => none
section
variable {X : Cx}
theorem opd_isB : OpD X rIsB fIsB := by
  intro H φ st Q x y dx dy dz st' rs vx vy hf q
  unfold fIsB at hf
  split at hf
  · cases hf; cases vx; cases vy
    exact ⟨_, _, rfl, rfl, q _ φ H .refl rs .bl⟩
  · cases hf
theorem opd_notB : OpD X rNotB fNotB := by
  intro H φ st Q x y dx dy dz st' rs vx vy hf q
  unfold fNotB at hf
  split at hf
  · cases hf; cases vx; cases vy
    exact ⟨_, _, rfl, rfl, q _ φ H .refl rs .bl⟩
  · cases hf
end
@[simp] theorem u_isB (a b : Bool) (st : Sto) : fIsB (.bl a) (.bl b) st = some (.bl (decide (a = b)), st) := rfl
@[simp] theorem u_notB (a b : Bool) (st : Sto) : fNotB (.bl a) (.bl b) st = some (.bl (!decide (a = b)), st) := rfl
end M2
set_option Elab.async false
set_option linter.all false
set_option maxRecDepth 100000
set_option maxHeartbeats 4000000
namespace M2
open PySem PySem.Spec PyProof.Rows L2
open Classical
variable [Tb]
/-! ### zip of two, lists or tuples -/
/-- a tuple (true) or a list (false) at a -/
def SqB (K : PySem.W.Frag) (H : Hp) : Bool → Addr → List V → Prop
  | true, a, xs => SqT K H a xs
  | false, a, xs => SqL K H a xs
def IsB (h : Heap) : Bool → Addr → Array Value → Prop
  | true, a, us => h.IsTuple a us
  | false, a, us => h.IsList a us
def ItB (h : Heap) : Bool → Addr → Addr → Nat → Prop
  | true, it, a, i => h.IsTupleIter it a i
  | false, it, a, i => h.IsListIter it a i
theorem ItB.at {h h' : Heap} : ∀ {k : Bool} {it a : Addr} {i : Nat}, ItB h k it a i → (∀ o, h.get? it = some o → h'.get? it = some o) → ItB h' k it a i
  | true, _, _, _, z, q => Heap.IsTupleIter.at z q
  | false, _, _, _, z, q => Heap.IsListIter.at z q
theorem ItB.ob {h : Heap} : ∀ {k : Bool} {it a : Addr} {i : Nat}, ItB h k it a i → ∃ o, h.get? it = some o ∧ ∀ v, o.data ≠ .cell v
  | true, _, _, _, ⟨o, e, _, d⟩ => ⟨o, e, fun v q => by rw [d] at q; cases q⟩
  | false, _, _, _, ⟨o, e, _, d⟩ => ⟨o, e, fun v q => by rw [d] at q; cases q⟩
theorem srcB {X : Cx} {pins : List (Addr × Obj)} {σ : L2.St} {H : Hp} {s : Shared} (I : Inv X pins σ H s) : ∀ {k : Bool} {a : Addr} {xs : List V}, SqB X.K H k a xs → ∃ its : List Value, Vals xs its ∧ IsB s.heap k a its.toArray
  | true, a, xs, z => by
    obtain ⟨its, rv, pt, _⟩ := I.tuple z
    exact ⟨its, rv, pt⟩
  | false, a, xs, z => by
    obtain ⟨its, rv, pt, _⟩ := I.list z
    exact ⟨its, rv, pt.isList⟩
theorem IsB.lt {h : Heap} : ∀ {k : Bool} {a : Addr} {us : Array Value}, IsB h k a us → a < h.objs.size
  | true, a, us, ⟨o, e, _⟩ => Heap.lt_size e
  | false, a, us, ⟨o, e, _⟩ => Heap.lt_size e
theorem drawsB {prog : Program} {w : World} {A : Around} (hh : A.handled = none) (k : Bool) (it a : Addr) (hne : a ≠ it) (us : Array Value) :
    Draws prog w A it [it, a] us.size (fun i v => us[i]? = some v) (fun i h => ItB h k it a i ∧ IsB h k a us) := by
  cases k with
  | true => exact Draws.tuple hh it a hne us
  | false => exact Draws.list hh it a hne us
/-- what is begun -/
def obB : Bool → Addr → Obj
  | true, a => { cls := .type "tuple_iterator", data := .fields #[.ref a, .int 0 0] }
  | false, a => { cls := .type "list_iterator", data := .fields #[.ref a, .int 0 0] }
theorem beginsB (k : Bool) (a : Addr) (us : Array Value) : Begins (.ref a) (obB k a) fun h => IsB h k a us := by
  cases k with
  | true => exact begins_tuple a us
  | false => exact begins_list a us
theorem itB_of {h : Heap} {k : Bool} {it a : Addr} (e : h.get? it = some (obB k a)) : ItB h k it a 0 := by
  cases k with
  | true => exact ⟨_, e, rfl, rfl⟩
  | false => exact ⟨_, e, rfl, rfl⟩
def ItzB (K : PySem.W.Frag) (k1 k2 : Bool) (a b : Addr) : It where
  go := fun i H => ∃ (p q : List V) (x y : V), SqB K H k1 a p ∧ SqB K H k2 b q ∧ p[i]? = some x ∧ q[i]? = some y
  yld := fun i H v H' => ∃ T x y, v = .ref T ∧ H T = none ∧ H' = upd H T (.tup [x, y]) ∧ (∀ p, SqB K H k1 a p → p[i]? = some x) ∧ ∀ q, SqB K H k2 b q → q[i]? = some y
  stop := fun i H => ∃ p q : List V, SqB K H k1 a p ∧ SqB K H k2 b q ∧ i ≤ p.length ∧ i ≤ q.length ∧ (i = p.length ∨ i = q.length)
theorem SqB.inj {X : Cx} {pins : List (Addr × Obj)} {σ : L2.St} {H : Hp} {s : Shared} (I : Inv X pins σ H s) : ∀ {k : Bool} {a : Addr} {p q : List V}, SqB X.K H k a p → SqB X.K H k a q → p = q
  | true, _, _, _, h1, h2 => I.tuple_inj h1 h2
  | false, _, _, _, h1, h2 => I.list_inj h1 h2
theorem turn_zipB {P : Program} {w : World} {K : PySem.W.Frag} {elts : List Expr} {kk : Nat} {tpos : Pos} {k1 k2 : Bool} {a b z TI TO i1 i2 : Addr} (S : ZipSep2 z TI TO i1 i2 [i1, a] [i2, b]) (na : a ≠ i1) (nb : b ≠ i2) :
    Turn P w K (.Tuple elts kk tpos) (ItzB K k1 k2 a b) [z, TI, TO, i1, i2] z (fun i h => IsZip h z TI TO .none ∧ IsTupOf2 h TI (.ref i1) (.ref i2) ∧ (∃ x y, IsTupOf2 h TO x y) ∧ ItB h k1 i1 a i ∧ ItB h k2 i2 b i) where
  mem := by simp
  obj := fun i h st c hc => by
    obtain ⟨e1, e2, ⟨x, y, e3⟩, j1, j2⟩ := st
    simp only [List.mem_cons, List.not_mem_nil, or_false] at hc
    rcases hc with rfl | rfl | rfl | rfl | rfl
    · exact ⟨_, e1, fun v q => nomatch q⟩
    · exact ⟨_, e2, fun v q => nomatch q⟩
    · exact ⟨_, e3, fun v q => nomatch q⟩
    · exact j1.ob
    · exact j2.ob
  keep := fun i h h' st k => by
    obtain ⟨e1, e2, ⟨x, y, e3⟩, j1, j2⟩ := st
    exact ⟨k _ (by simp) _ e1, k _ (by simp) _ e2, ⟨x, y, k _ (by simp) _ e3⟩, j1.at fun o => k _ (by simp) o, j2.at fun o => k _ (by simp) o⟩
  item := by
    intro X hP hw hK hc i pins s σ H E I hf st hg
    subst hP hw hK
    obtain ⟨e1, e2, ⟨x0, y0, e3⟩, j1, j2⟩ := st
    obtain ⟨p, q, x, y, g1, g2, hx, hy⟩ := hg
    obtain ⟨us1, rv1, b1⟩ := srcB I g1
    obtain ⟨us2, rv2, b2⟩ := srcB I g2
    obtain ⟨u, hu, ru⟩ := rv1.get hx
    obtain ⟨u2, hu2, ru2⟩ := rv2.get hy
    have D1 := drawsB (prog := X.prog) (w := X.w) (A := X.A.in1) (I.ok.hd hc) k1 i1 a na us1.toArray
    have D2 := drawsB (prog := X.prog) (w := X.w) (A := X.A.in1) (I.ok.hd hc) k2 i2 b nb us2.toArray
    have l1 : i < us1.toArray.size := by simpa using (List.getElem?_eq_some_iff.mp hu).1
    have l2 : i < us2.toArray.size := by simpa using (List.getElem?_eq_some_iff.mp hu2).1
    have lz : z < s.heap.objs.size := Heap.lt_size e1
    refine wpAny_pyNext_zipD2_item S D1 D2 e1 e2 e3 ⟨j1, b1⟩ ⟨j2, b2⟩ l1 l2 fun v1 v2 h1 tk w1 w2 f1 f2 f3 f4 f5 f6 f7 => ?_
    obtain rfl : v1 = u := by
      have t : us1[i]? = some v1 := by simpa using w1
      rw [hu] at t; exact (Option.some.inj t).symm
    obtain rfl : v2 = u2 := by
      have t : us2[i]? = some v2 := by simpa using w2
      rw [hu2] at t; exact (Option.some.inj t).symm
    refine ⟨_, rfl, wpAny_letOwnedTupleGo_zip (s := { s with heap := h1, toks := tk }) f1 fun h2 c1 sb => ?_⟩
    have n0 : s.heap.objs.size ≠ z := Nat.ne_of_gt lz
    have c2 : h2.get? s.heap.objs.size = some { cls := .type "tuple", data := .seq #[v1, v2] } := (sb.2 _ n0).trans f5
    have new : ObjOk X.prog X.w (upd H s.heap.objs.size (.tup [x, y])) h2 s.heap.objs.size (.tup [x, y]) := ⟨by show 2 ≤ sizeLine; decide, [v1, v2], .cons ru (.cons ru2 .nil), ⟨_, c2, rfl, _, rfl⟩⟩
    have I1 : Inv X pins σ (upd H s.heap.objs.size (.tup [x, y])) { s with heap := h2, toks := tk } := by
      refine I.turnedNew (ch := [z, TI, TO, i1, i2]) (fun c o hb e => ?_) hf (Nat.le_refl _) new
      simp only [List.mem_cons, List.not_mem_nil, or_false, not_or] at hb
      exact (sb.2 c hb.1).trans (f7 c o hb.1 hb.2.2.1 hb.2.2.2.1 hb.2.2.2.2 e)
    refine ⟨.ref s.heap.objs.size, _, I1, rfl, ⟨_, x, y, rfl, I.hok.fresh (Nat.le_refl _), rfl, fun r hr => by rw [hr.inj I g1]; exact hx, fun r hr => by rw [hr.inj I g2]; exact hy⟩, ⟨c1, ?_, ⟨v1, v2, ?_⟩, ?_, ?_⟩, fun c hcm => ?_⟩
    · exact (sb.2 _ S.TIz).trans (f7 _ _ S.TIz S.TITO S.TIi1 S.TIi2 e2)
    · exact (sb.2 _ S.TOz).trans f2
    · exact f3.1.at fun o e => (sb.2 _ S.zi1.symm).trans e
    · exact f4.1.at fun o e => (sb.2 _ S.zi2.symm).trans e
    · have lc : c < s.heap.objs.size := by
        simp only [List.mem_cons, List.not_mem_nil, or_false] at hcm
        rcases hcm with rfl | rfl | rfl | rfl | rfl
        · exact lz
        · exact Heap.lt_size e2
        · exact Heap.lt_size e3
        · obtain ⟨_, e, _⟩ := j1.ob; exact Heap.lt_size e
        · obtain ⟨_, e, _⟩ := j2.ob; exact Heap.lt_size e
      rw [upd_ne (Nat.ne_of_lt lc)]
      exact (hf c hcm).1
  done := by
    intro X hP hw hK hc i pins s σ H E I hf st hg
    subst hP hw hK
    obtain ⟨e1, e2, ⟨x0, y0, e3⟩, j1, j2⟩ := st
    obtain ⟨p, q, g1, g2, q1, q2, q3⟩ := hg
    obtain ⟨us1, rv1, b1⟩ := srcB I g1
    obtain ⟨us2, rv2, b2⟩ := srcB I g2
    have l1 := rv1.length
    have l2 := rv2.length
    have D1 := drawsB (prog := X.prog) (w := X.w) (A := X.A.in1) (I.ok.hd hc) k1 i1 a na us1.toArray
    have D2 := drawsB (prog := X.prog) (w := X.w) (A := X.A.in1) (I.ok.hd hc) k2 i2 b nb us2.toArray
    refine wpAny_pyNext_zipD2_end S D1 D2 e1 e2 e3 ⟨j1, b1⟩ ⟨j2, b2⟩ (by simp; omega) (by simp; omega) (by simp; omega) fun h1 tk f7 => ?_
    refine ⟨rfl, I.turnedL (ch := [z, TI, TO, i1, i2]) (fun c o hb e => ?_) hf⟩
    simp only [List.mem_cons, List.not_mem_nil, or_false, not_or] at hb
    exact f7 c o hb.1 hb.2.2.1 hb.2.2.2.1 hb.2.2.2.2 e
  self := fun A i s Q E st h => wpAny_pyIter_zip st.1 h
end M2
set_option Elab.async false
set_option linter.all false
set_option maxRecDepth 100000
set_option maxHeartbeats 4000000
namespace M2
open PySem PySem.Spec PyProof.Rows L2
open Classical
variable [Tb]
def iZipB (K : PySem.W.Frag) (ta : TA) : TI := fun σ H R => ta σ H fun vs H1 => ∃ k1 k2 a b xs ys, vs = [.ref a, .ref b] ∧ SqB K H1 k1 a xs ∧ SqB K H1 k2 b ys ∧ R (ItzB K k1 k2 a b) H1
theorem nin2 {x y z : Nat} (h1 : x ≠ y) (h2 : x ≠ z) : x ∉ ([y, z] : List Nat) := by simp [h1, h2]
theorem sep5 (n a b : Nat) (la : a < n) (lb : b < n) : ZipSep2 (n + 4) (n + 2) (n + 3) n (n + 1) [n, a] [n + 1, b] := by
  have t1 : n + 2 ≠ n + 4 := by omega
  have t2 : n + 3 ≠ n + 4 := by omega
  have t3 : n + 2 ≠ n + 3 := by omega
  have t4 : n + 2 ≠ n := by omega
  have t5 : n + 2 ≠ n + 1 := by omega
  exact ⟨t1, t2, t3, t4, List.mem_cons_self, nin2 (by omega) (by omega), nin2 (by omega) (by omega), t5, List.mem_cons_self, nin2 (by omega) (by omega), nin2 (by omega) (by omega), nin2 (by omega) (by omega), nin2 (by omega) (by omega)⟩
theorem ge5 {n c : Nat} (h : c ∈ ([n + 4, n + 2, n + 3, n, n + 1] : List Nat)) : n ≤ c := by
  simp only [List.mem_cons, List.not_mem_nil, or_false] at h
  omega
theorem pi_zipB {X : Cx} {e e2 : Expr} {ta : TA} {p pos tpos : Pos} {elts : List Expr} {kk : Nat} (hg : Gl X "zip") (hm : X.mg "zip" = none) (ha : PA X [e, e2] ta)
    (hs : starEach [e, e2] X.env = (false, eval e X.env) :: starEach [e2] X.env) (hpl : (backTo pos (starEach [e2] X.env)).any (·.1) = false) :
    PI X (.Tuple elts kk tpos) (.Call (.Name "zip" p) [e, e2] [] pos) (iZipB X.K ta) := by
  refine ⟨fun pins s σ H R I h => Call_ (ld_blt I hg hm PyProof.Rows.boot_zip (PyProof.Rows.callWith_type1 (thn (ha.run pos pins s σ H _ I h) fun us s1 z => ?_) hs hpl))⟩
  obtain ⟨vs, H1, I1, r1, k1, k2, a, b, xs, ys, ex, g1, g2, q⟩ := z
  subst ex
  obtain ⟨u1, u2, rfl, ra, rb⟩ := vals2 r1
  cases ra
  cases rb
  obtain ⟨us1, rv1, b1⟩ := srcB I1 g1
  obtain ⟨us2, rv2, b2⟩ := srcB I1 g2
  have la := b1.lt
  have lb := b2.lt
  obtain ⟨n, hn⟩ : ∃ n, n = s1.heap.objs.size := ⟨_, rfl⟩
  refine zip_begins2 (beginsB k1 a us1.toArray) (beginsB k2 b us2.toArray) b1 b2 fun h1 e1 e2 e3 e4 e5 e6 e7 => wpAny_pyIter_zip e1 ?_
  have I2 : Inv X pins σ H1 { s1 with heap := h1 } := I1.kept (t' := s1.toks) e7
  rw [← hn] at e1 e2 e3 e4 e5 la lb
  have S := sep5 n a b la lb
  rw [← hn]
  refine ⟨n + 4, [n + 4, n + 2, n + 3, n, n + 1], _, _, H1, rfl, I2, turn_zipB S (Nat.ne_of_lt la) (Nat.ne_of_lt (Nat.lt_succ_of_lt lb)), ⟨e1, e2, ⟨_, _, e3⟩, itB_of e4, itB_of e5⟩, fun c hc => ?_, q⟩
  have hle : s1.heap.objs.size ≤ c := by
    rw [← hn]
    exact ge5 hc
  exact I1.fpOk hle (I1.hok.fresh hle)
/-! the mirror -/
def srcD (d : D) (st : Sto) : Option (List D × List (Nat × List D)) := match d with
  | .tup ds => some (ds, [])
  | .mu l => (st[l]?).map fun ds => (ds, [(l, ds)])
  | _ => none
def zipD : List D → List D → List D
  | x :: xs, y :: ys => .tup [x, y] :: zipD xs ys
  | _, _ => []
def mZip (a b : MM D) : MM IT := bnd a fun x => bnd b fun y => asg fun _ st => (srcD x st).bind fun p => (srcD y st).map fun q => ⟨zipD p.1 q.1, none, p.2 ++ q.2⟩
theorem zipD_get : ∀ (xs ys : List D) (i : Nat), (zipD xs ys)[i]? = match xs[i]?, ys[i]? with
    | some x, some y => some (.tup [x, y])
    | _, _ => none
  | [], _, i => by simp [zipD]
  | x :: xs, [], i => by
    simp only [zipD, List.getElem?_nil]
    cases (x :: xs)[i]? <;> rfl
  | x :: xs, y :: ys, 0 => by simp [zipD]
  | x :: xs, y :: ys, i + 1 => by
    simp only [zipD, List.getElem?_cons_succ]
    exact zipD_get xs ys i
theorem zipD_len : ∀ (xs ys : List D), (zipD xs ys).length ≤ xs.length ∧ (zipD xs ys).length ≤ ys.length ∧ ((zipD xs ys).length = xs.length ∨ (zipD xs ys).length = ys.length)
  | [], _ => ⟨Nat.le_refl _, Nat.zero_le _, .inl rfl⟩
  | x :: xs, [] => ⟨Nat.zero_le _, Nat.le_refl _, .inr rfl⟩
  | x :: xs, y :: ys => by
    obtain ⟨h1, h2, h3⟩ := zipD_len xs ys
    simp only [zipD, List.length_cons]
    omega
/-- the source as it stands now -/
def SrcR (K : PySem.W.Frag) (φ : List Addr) (H : Hp) (k : Bool) (a : Addr) (ds : List D) (g : List (Nat × List D)) : Prop :=
  ∀ φ' H' st', KX H φ H' φ' → RS K H' φ' st' → (∀ p ∈ g, st'[p.1]? = some p.2) → ∃ vs, SqB K H' k a vs ∧ VDs K H' φ' vs ds
theorem srcD_guard {st : Sto} {d : D} {ds : List D} {g : List (Nat × List D)} (e : srcD d st = some (ds, g)) : ∀ p ∈ g, st[p.1]? = some p.2 := by
  intro p hp
  unfold srcD at e
  split at e
  · cases e; cases hp
  · rename_i l
    cases e2 : st[l]? with
    | none => rw [e2] at e; cases e
    | some xs =>
      rw [e2] at e; cases e
      rcases List.mem_cons.mp hp with rfl | hp
      · exact e2
      · cases hp
  · cases e
theorem srcR_of {K : PySem.W.Frag} {φ : List Addr} {H : Hp} {st : Sto} {v : V} {d : D} {ds : List D} {g : List (Nat × List D)} (hv : VD K H φ v d) (e : srcD d st = some (ds, g)) : ∃ k a, v = .ref a ∧ SrcR K φ H k a ds g := by
  unfold srcD at e
  split at e
  · cases e
    obtain ⟨a, ws, rfl, h1, h2⟩ := hv.tupI
    exact ⟨true, a, rfl, fun φ' H' st' kx rs' _ => ⟨ws, kx.sqT h1, h2.mono kx⟩⟩
  · rename_i l
    cases e2 : st[l]? with
    | none => rw [e2] at e; cases e
    | some xs =>
      rw [e2] at e; cases e
      obtain ⟨a, rfl, ha⟩ := hv.mutI
      refine ⟨false, a, rfl, fun φ' H' st' kx rs' hg => ?_⟩
      obtain ⟨ws, g1, g2⟩ := rs'.get l a ds (kx.muAt ha) (hg (l, ds) List.mem_cons_self)
      exact ⟨ws, .of g1, g2⟩
  · cases e
theorem itr_zipB {K : PySem.W.Frag} {k1 k2 : Bool} {a b : Addr} {xs ys : List D} {g1 g2 : List (Nat × List D)} {φ0 : List Addr} {H0 : Hp} (h1 : SrcR K φ0 H0 k1 a xs g1) (h2 : SrcR K φ0 H0 k2 b ys g2) :
    ItR K ⟨zipD xs ys, none, g1 ++ g2⟩ (ItzB K k1 k2 a b) φ0 H0 := fun φ H st kx rs hg => by
  obtain ⟨vs, s1, r1⟩ := h1 φ H st kx rs fun p hp => hg.2 p (List.mem_append_left _ hp)
  obtain ⟨ws, s2, r2⟩ := h2 φ H st kx rs fun p hp => hg.2 p (List.mem_append_right _ hp)
  have l1 := r1.length
  have l2 := r2.length
  obtain ⟨z1, z2, z3⟩ := zipD_len xs ys
  refine ⟨fun i hi => ?_, ⟨vs, ws, s1, s2, ?_, ?_, ?_⟩, fun i x H' hi hy => ?_⟩
  · have hi' : i < (zipD xs ys).length := hi
    exact ⟨vs, ws, vs[i]'(by omega), ws[i]'(by omega), s1, s2, by simp, by simp⟩
  · show (zipD xs ys).length ≤ vs.length; omega
  · show (zipD xs ys).length ≤ ws.length; omega
  · show (zipD xs ys).length = vs.length ∨ (zipD xs ys).length = ws.length; omega
  · have hi' : i < (zipD xs ys).length := hi
    obtain ⟨T, u, w, rfl, hT, rfl, f1, f2⟩ := hy
    have t1 := f1 vs s1
    have t2 := f2 ws s2
    have x1 : i < xs.length := by omega
    have y1 : i < ys.length := by omega
    obtain ⟨u', c1, d1⟩ := r1.get (List.getElem?_eq_getElem x1)
    obtain ⟨w', c2, d2⟩ := r2.get (List.getElem?_eq_getElem y1)
    rw [t1] at c1; cases c1
    rw [t2] at c2; cases c2
    obtain ⟨kx2, rs2⟩ := lay_tup (xs := [u, w]) rs hT
    refine ⟨.tup [xs[i], ys[i]], ?_, kx2, rs2, .tup (.of upd_same) (.cons (d1.mono kx2) (.cons (d2.mono kx2) .nil))⟩
    show (zipD xs ys)[i]? = _
    rw [zipD_get, List.getElem?_eq_getElem x1, List.getElem?_eq_getElem y1]
theorem di_zip {X : Cx} {E : XK} {e e2 : Expr} {ma mb : MM D} {p pos tpos : Pos} {elts : List Expr} {kk : Nat} (hg : Gl X "zip") (hm : X.mg "zip" = none) (ha : DA X E [e, e2] (mArgs [ma, mb]))
    (hs : starEach [e, e2] X.env = (false, eval e X.env) :: starEach [e2] X.env := by rfl) (hpl : (backTo pos (starEach [e2] X.env)).any (·.1) = false := by rfl) :
    DI X E (.Tuple elts kk tpos) (.Call (.Name "zip" p) [e, e2] [] pos) (mZip ma mb) :=
  pi_imp (pi_zipB hg hm ha hs hpl) fun σ H R ⟨en, st, φ, g⟩ => by
    have g' : Gat X.K E (bnd (mArgs [ma, mb]) fun ds => match ds with
        | [x, y] => asg fun _ st => (srcD x st).bind fun p => (srcD y st).map fun q => (⟨zipD p.1 q.1, none, p.2 ++ q.2⟩ : IT)
        | _ => fun _ _ => none) σ en st φ H fun _ it φ' H' => ∀ J, ItR X.K it J φ' H' → R J H' := by
      obtain ⟨re, rs, r, st', em, q⟩ := g
      refine ⟨re, rs, r, st', ?_, q⟩
      rw [← em]
      show bnd (bnd ma fun d => bnd (bnd mb fun d => bnd (ret []) fun ds => ret (d :: ds)) fun ds => ret (d :: ds)) _ en st = bnd ma (fun x => bnd mb fun y => _) en st
      unfold bnd
      cases ma en st with
      | none => rfl
      | some r1 =>
        obtain ⟨r1, s1⟩ := r1
        cases r1 with
        | error c => rfl
        | ok x =>
          simp only
          cases mb en s1 with
          | none => rfl
          | some r2 =>
            obtain ⟨r2, s2⟩ := r2
            cases r2 with
            | error c => rfl
            | ok y => rfl
    refine ⟨en, st, φ, g'.bind.imp fun st1 ds φ1 H1 _ _ ⟨kx, rs1, g1⟩ vs hv => ?_⟩
    cases ds with
    | nil => obtain ⟨_, _, _, _, z, _⟩ := g1; cases z
    | cons x r =>
      cases r with
      | nil => obtain ⟨_, _, _, _, z, _⟩ := g1; cases z
      | cons y r =>
        cases r with
        | cons _ _ => obtain ⟨_, _, _, _, z, _⟩ := g1; cases z
        | nil =>
          obtain ⟨it, e1, q1⟩ := g1.asg
          obtain ⟨v, u, rfl, h1, h2⟩ := hv.two
          cases ex : srcD x st1 with
          | none => rw [ex] at e1; cases e1
          | some p =>
            cases ey : srcD y st1 with
            | none => rw [ex, ey] at e1; cases e1
            | some q =>
              rw [ex, ey] at e1
              cases e1
              obtain ⟨k1, a, rfl, s1⟩ := srcR_of h1 (show srcD x st1 = some (p.1, p.2) from ex)
              obtain ⟨k2, b, rfl, s2⟩ := srcR_of h2 (show srcD y st1 = some (q.1, q.2) from ey)
              obtain ⟨xs, c1, _⟩ := s1 φ1 H1 st1 .refl rs1 (srcD_guard (g := p.2) (ds := p.1) ex)
              obtain ⟨ys, c2, _⟩ := s2 φ1 H1 st1 .refl rs1 (srcD_guard (g := q.2) (ds := q.1) ey)
              exact ⟨k1, k2, a, b, xs, ys, rfl, c1, c2, q1 _ (itr_zipB s1 s2)⟩
/-! ### any -/
def fAny : FDB := fun ds st => match ds with
  | [.mu l] => ((st[l]?).bind blsD).map fun bs => (.bl (bs.any id), st)
  | _ => none
theorem cal_any {X : Cx} : CalD X (rAny X.K) fAny := by
  intro H φ st Q vs ds dz st' rs hv hf q
  unfold fAny at hf
  split at hf
  · rename_i l
    cases e : st[l]? with
    | none => rw [e] at hf; cases hf
    | some xs =>
      rw [e] at hf
      cases e2 : blsD xs with
      | none => rw [show ((some xs).bind blsD) = blsD xs from rfl, e2] at hf; cases hf
      | some bs =>
        rw [show ((some xs).bind blsD) = blsD xs from rfl, e2] at hf
        cases hf
        obtain ⟨v, rfl, h⟩ := hv.one
        obtain ⟨a, rfl, ha⟩ := h.mutI
        obtain ⟨ws, g1, g2⟩ := rs.get l a _ ha e
        rw [blsD_eq e2] at g2
        exact ⟨a, bs, rfl, by rw [← g2.bls]; exact .of g1, q _ φ H .refl rs .bl⟩
  · cases hf
/-! ### keys, x in a list -/
mutual
def keyD : D → Option NestedKey
  | .non => some .none
  | .bl b => some (.num (if b = true then 1 else 0))
  | .int i => some (.num i)
  | .str x => some (.text x)
  | .tup ds => (keyDs ds).map .tup
  | _ => none
def keyDs : List D → Option (List NestedKey)
  | [] => some []
  | d :: ds => (keyD d).bind fun k => (keyDs ds).map fun ks => k :: ks
end
section
variable {X : Cx} {pins : List (Addr × Obj)} {σ : L2.St} {H : Hp} {s : Shared} {φ : List Addr}
mutual
theorem vd_key (I : Inv X pins σ H s) : ∀ {v : V} {d : D} {k : NestedKey} {u : Value}, VD X.K H φ v d → keyD d = some k → RelV v u → NestedIs s.heap k u
  | _, _, _, _, .non, e, r => by (unfold keyD at e; cases e; cases r; exact .none)
  | _, _, _, _, .bl, e, r => by (unfold keyD at e; cases e; cases r; exact .bool rfl)
  | _, _, _, _, .int, e, r => by (unfold keyD at e; cases e; obtain ⟨t, rfl⟩ := r; exact .int _ t)
  | _, _, _, _, .str, e, r => by (unfold keyD at e; cases e; obtain ⟨t, rfl⟩ := r; exact .text _ t)
  | _, _, k, _, .tup (ds := ds) h1 h2, e, r => by
    unfold keyD at e
    cases e2 : keyDs ds with
    | none => rw [e2] at e; cases e
    | some ks =>
      rw [e2] at e
      cases e
      cases r
      obtain ⟨its, rv, ⟨o, c1, c2, n, c3⟩, _⟩ := I.tuple h1
      exact .tup c1 c2 c3 (by simpa using vds_key I h2 e2 rv)
  | _, _, _, _, .mu _ _, e, _ => by (unfold keyD at e; cases e)
  | _, _, _, _, .key _, e, _ => by (unfold keyD at e; cases e)
  | _, _, _, _, .mdt _ _, e, _ => by (unfold keyD at e; cases e)
  | _, _, _, _, .obj _ _, e, _ => by (unfold keyD at e; cases e)
  | _, _, _, _, .scr _, e, _ => by (unfold keyD at e; cases e)
  | _, _, _, _, .ty, e, _ => by (unfold keyD at e; cases e)
  | _, _, _, _, .cls, e, _ => by (unfold keyD at e; cases e)
  | _, _, _, _, .cln, e, _ => by (unfold keyD at e; cases e)
  | _, _, _, _, .exc _, e, _ => by (unfold keyD at e; cases e)
  | _, _, _, _, .exf _ _, e, _ => by (unfold keyD at e; cases e)
  | _, _, _, _, .tpn _ _, e, _ => by (unfold keyD at e; cases e)
  | _, _, _, _, .cxd _, e, _ => by (unfold keyD at e; cases e)
  | _, _, _, _, .dic _ _ _, e, _ => by (unfold keyD at e; cases e)
theorem vds_key (I : Inv X pins σ H s) : ∀ {vs : List V} {ds : List D} {ks : List NestedKey} {us : List Value}, VDs X.K H φ vs ds → keyDs ds = some ks → Vals vs us → NestedAll s.heap ks us
  | _, _, _, _, .nil, e, r => by (unfold keyDs at e; cases e; cases r; exact .nil)
  | _, _, _, _, .cons (d := d) (ds := ds) h t, e, r => by
    unfold keyDs at e
    cases e1 : keyD d with
    | none => rw [e1] at e; cases e
    | some k =>
      rw [e1] at e
      cases e2 : keyDs ds with
      | none => rw [show ((some k).bind fun k => (keyDs ds).map fun ks => k :: ks) = (keyDs ds).map (fun ks => k :: ks) from rfl, e2] at e; cases e
      | some ks =>
        rw [show ((some k).bind fun k => (keyDs ds).map fun ks => k :: ks) = (keyDs ds).map (fun ks => k :: ks) from rfl, e2] at e
        cases e
        cases r with
        | cons r1 r2 => exact .cons (vd_key I h e1 r1) (vds_key I t e2 r2)
end
end
def memK (kx : NestedKey) (ks : List NestedKey) : Bool := ks.any fun k => NestedKey.beq k kx
def rInK (K : PySem.W.Frag) (neg : Bool) : R2 := fun x y H Q => ∃ p ws φ dx ds kx ks, y = .ref p ∧ SqL K H p ws ∧ VD K H φ x dx ∧ VDs K H φ ws ds ∧ keyD dx = some kx ∧ keyDs ds = some ks ∧ kx.depth ≤ 40 ∧ Q (.bl (if neg then !memK kx ks else memK kx ks)) H
theorem key_any {h : Heap} (kx : NestedKey) : ∀ {ks : List NestedKey} {us : List Value}, NestedAll h ks us → us.any (fun u => decide (∃ k, NestedIs h k u ∧ NestedKey.beq k kx = true)) = memK kx ks
  | _, _, .nil => rfl
  | _, _, .cons (k := k) (v := v) (ks := ks) c t => by
    have e1 : decide (∃ k, NestedIs h k v ∧ NestedKey.beq k kx = true) = NestedKey.beq k kx := by
      cases hb : NestedKey.beq k kx with
      | true => exact decide_eq_true ⟨k, c, hb⟩
      | false =>
        refine decide_eq_false fun ⟨k2, c2, b2⟩ => ?_
        rw [NestedIs.inj _ _ _ c2 c, hb] at b2
        cases b2
    have ih := key_any kx t
    show (decide _ || _) = (NestedKey.beq k kx || _)
    rw [e1, ih]; rfl
theorem key_ats {A : Around} {s : Shared} {kx : NestedKey} {x : Value} (hx : NestedIs s.heap kx x) (hu : A.units + kx.depth < cLine) : ∀ {ks : List NestedKey} {us : List Value}, NestedAll s.heap ks us → ∀ u ∈ us, SeqAt.EqAt A s u x (decide (∃ k, NestedIs s.heap k u ∧ NestedKey.beq k kx = true))
  | _, _, .nil, u, hm => by cases hm
  | _, _, .cons (k := k) c t, u, hm => by
    rcases List.mem_cons.mp hm with rfl | hm
    · have e1 : decide (∃ k, NestedIs s.heap k u ∧ NestedKey.beq k kx = true) = NestedKey.beq k kx := by
        cases hb : NestedKey.beq k kx with
        | true => exact decide_eq_true ⟨k, c, hb⟩
        | false =>
          refine decide_eq_false fun ⟨k2, c2, b2⟩ => ?_
          rw [NestedIs.inj _ _ _ c2 c, hb] at b2
          cases b2
      rw [e1]
      exact eqAt_key k kx A s u x c hx (by omega)
    · exact key_ats hx hu t u hm
theorem op_inK {X : Cx} (hu : X.A.units + 64 < cLine) : OpR X (compareOp .In) (rInK X.K false) := by
  intro pins s σ H x y v u Q I rx ry h
  obtain ⟨p, ws, φ, dx, ds, kx, ks, rfl, hq, v1, v2, e1, e2, hd, q⟩ := h
  cases ry
  obtain ⟨its, rv, hl, _⟩ := I.list hq
  have ux : X.A.in1.units + kx.depth < cLine := by show X.A.units + 1 + kx.depth < cLine; omega
  have c1 := vd_key I v1 e1 rx
  have c2 := vds_key I v2 e2 rv
  refine SeqAt.in_listAt (fun u => decide (∃ k, NestedIs s.heap k u ∧ NestedKey.beq k kx = true)) hl.isList (fun z hz => key_ats c1 ux c2 z (by simpa using hz)) ⟨.bl _, H, I, rfl, ?_⟩
  rw [show its.toArray.any (fun u => decide (∃ k, NestedIs s.heap k u ∧ NestedKey.beq k kx = true)) = its.any (fun u => decide (∃ k, NestedIs s.heap k u ∧ NestedKey.beq k kx = true)) by simp, key_any kx c2]
  exact q
theorem op_notInK {X : Cx} (hu : X.A.units + 64 < cLine) : OpR X (compareOp .NotIn) (rInK X.K true) := by
  intro pins s σ H x y v u Q I rx ry h
  obtain ⟨p, ws, φ, dx, ds, kx, ks, rfl, hq, v1, v2, e1, e2, hd, q⟩ := h
  cases ry
  obtain ⟨its, rv, hl, _⟩ := I.list hq
  have ux : X.A.in1.units + kx.depth < cLine := by show X.A.units + 1 + kx.depth < cLine; omega
  have c1 := vd_key I v1 e1 rx
  have c2 := vds_key I v2 e2 rv
  refine SeqAt.notIn_listAt (fun u => decide (∃ k, NestedIs s.heap k u ∧ NestedKey.beq k kx = true)) hl.isList (fun z hz => key_ats c1 ux c2 z (by simpa using hz)) ⟨.bl _, H, I, rfl, ?_⟩
  rw [show its.toArray.any (fun u => decide (∃ k, NestedIs s.heap k u ∧ NestedKey.beq k kx = true)) = its.any (fun u => decide (∃ k, NestedIs s.heap k u ∧ NestedKey.beq k kx = true)) by simp, key_any kx c2]
  exact q
def fInK (neg : Bool) : FD2 := fun x y st => match y with
  | .mu l => (st[l]?).bind fun ds => (keyD x).bind fun kx => (keyDs ds).bind fun ks => if kx.depth ≤ 40 then some (.bl (if neg then !memK kx ks else memK kx ks), st) else none
  | _ => none
theorem opd_inK {X : Cx} {neg : Bool} : OpD X (rInK X.K neg) (fInK neg) := by
  intro H φ st Q x y dx dy dz st' rs vx vy hf q
  unfold fInK at hf
  split at hf
  · rename_i l
    cases e : st[l]? with
    | none => rw [e] at hf; cases hf
    | some ds =>
      cases e1 : keyD dx with
      | none => rw [e, e1] at hf; cases hf
      | some kx =>
        cases e2 : keyDs ds with
        | none => rw [e, e1, Option.bind_some, Option.bind_some, e2] at hf; cases hf
        | some ks =>
          rw [e, e1, Option.bind_some, Option.bind_some, e2, Option.bind_some] at hf
          split at hf
          · rename_i c
            cases hf
            obtain ⟨a, rfl, ha⟩ := vy.mutI
            obtain ⟨ws, g1, g2⟩ := rs.get l a _ ha e
            exact ⟨a, ws, φ, dx, ds, kx, ks, rfl, .of g1, vx, g2, e1, e2, c, q _ φ H .refl rs .bl⟩
          · cases hf
  · cases hf
end M2
set_option Elab.async false
set_option linter.all false
set_option maxRecDepth 100000
set_option maxHeartbeats 4000000
namespace M2
open PySem PySem.Spec PyProof.Rows L2
open Classical
variable [Tb]
/-! ### d.setdefault(a tuple, x) -/
def rSetdT : V → List V → Hp → VK → Prop := fun x xs H Q => ∃ (a : Addr) (kvs : List (List Key × V)) (k : List Key) (b : Addr) (d : V), x = .ref a ∧ xs = [.ref b, d] ∧ H a = some (.dT kvs) ∧ H b = some (.tup (k.map kV)) ∧ kvs.length < sizeLine ∧
  (∀ v, valV kvs k = some v → Q v H) ∧ (valV kvs k = none → Q d (upd H a (.dT (putK kvs k d))))
theorem mt_setdT {X : Cx} (hu : X.A.units + 64 < cLine) : MtR X "dict.setdefault" rSetdT := by
  intro pins s σ H x xs v us Q I rx rxs h
  obtain ⟨a, kvs, k, b, d, rfl, rfl, ha, hb, hl, q1, q2⟩ := h
  cases rx
  obtain ⟨u1, u2, rfl, r1, r2⟩ := vals2 rxs
  cases r1
  obtain ⟨z, hd, es0, rel, dd⟩ := dt_of I.hok ha
  have hz : es0.length ≤ sizeLine := Nat.le_trans (Nat.le_of_eq (Paired.length rel).symm) z
  have rv := rel.val k
  refine call_setdefault_heap (knd := tupleKind (mixKind X.prog X.w)) (k := k) (tupleKind_room_in1 (by omega)) (key_of I.hok hb) hd dd (fun p hp => ?_) (fun hn h1 d1 hs => ?_) hz
  · rw [hp] at rv
    cases ev : valV kvs k with
    | none => rw [ev] at rv; exact (show False from rv).elim
    | some v0 =>
      rw [ev] at rv
      exact ⟨v0, H, I.tok _, rv, q1 v0 ev⟩
  · rw [hn] at rv
    cases ev : valV kvs k with
    | some v0 => rw [ev] at rv; exact (show False from rv).elim
    | none =>
      obtain ⟨w0, es, ep, g1, g2, g3, g4, _, g5⟩ := d1
      have ln : (putK kvs k d).length ≤ sizeLine := by have := length_putK kvs k d; omega
      have I2 : Inv X pins σ (upd H a (.dT (putK kvs k d))) { s with heap := h1, toks := s.toks + (tupleKind (mixKind X.prog X.w)).draws k } :=
        d_write I (by rw [ha]; exact True.intro) hs ⟨w0, g1⟩ ⟨ln, hd, _, (rel.put k hb r2).keeps (fun c ys ec => (upd_ne (ne_of ec ha (fun z => nomatch z))).trans ec), w0, es, ep, g1, g2, g3, g4, g5⟩
      exact ⟨d, _, I2, r2, q2 ev⟩
/-! the mirror -/
def decD : D → Option (List Int × Int)
  | .tup [.tup ks, .int i] => (intsD ks).map fun ns => (ns, i)
  | _ => none
def decR : List D → Option (List (List Int × Int))
  | [] => some []
  | d :: r => (decD d).bind fun e => (decR r).map fun es => e :: es
theorem decD_e (e : List Int × Int) : decD (eD e) = some e := by
  show (intsD (e.1.map D.int)).map _ = _
  rw [intsD_map]; rfl
theorem decR_map : ∀ ps : List (List Int × Int), decR (ps.map eD) = some ps
  | [] => rfl
  | e :: r => by
    show (decD (eD e)).bind _ = _
    rw [decD_e, Option.bind_some, decR_map r]; rfl
def lookI (ps : List (List Int × Int)) (ns : List Int) : Option Int := (ps.find? fun e => decide (e.1 = ns)).map (·.2)
theorem inl_inj : ∀ {a b : List Int}, a.map (Sum.inl : Int → Key) = b.map Sum.inl → a = b
  | [], [], _ => rfl
  | [], _ :: _, h => by cases h
  | _ :: _, [], h => by cases h
  | x :: a, y :: b, h => by
    simp only [List.map_cons, List.cons.injEq] at h
    rw [Sum.inl.inj h.1, inl_inj h.2]
theorem val_look : ∀ (ps : List (List Int × Int)) (ns : List Int), valV (ps.map eV) (ns.map Sum.inl) = (lookI ps ns).map V.int
  | [], _ => rfl
  | e :: r, ns => by
    by_cases c : e.1 = ns
    · subst c
      have e1 : valV ((e :: r).map eV) (e.1.map Sum.inl) = some (.int e.2) := by
        rw [List.map_cons]; exact valV_pos (p := eV e) rfl
      rw [e1]
      unfold lookI
      rw [List.find?_cons_of_pos (by simp)]; rfl
    · have c2 : ¬ (eV e).1 = ns.map Sum.inl := fun z => c (inl_inj z)
      have ih := val_look r ns
      have e1 : valV ((e :: r).map eV) (ns.map Sum.inl) = valV (r.map eV) (ns.map Sum.inl) := by
        unfold valV
        rw [List.map_cons, List.find?_cons_of_neg (by simpa using c2)]
      have e2 : lookI (e :: r) ns = lookI r ns := by
        unfold lookI
        rw [List.find?_cons_of_neg (by simpa using c)]
      rw [e1, e2, ih]
theorem kV_ints (ns : List Int) : (ns.map (Sum.inl : Int → Key)).map kV = ns.map V.int := by
  rw [List.map_map]; rfl
def fSetd (l : Nat) (ns : List Int) (i : Int) : Sto → Option (D × Sto) := fun st => ((st[l]?).bind decR).bind fun ps => if ps.length < 100000 then match lookI ps ns with
  | some v => some (.int v, st)
  | none => some (.int i, st.set l ((ps ++ [(ns, i)]).map eD)) else none
def mdtI : D → Option Nat
  | .mdt l => some l
  | _ => none
def fSetdA (l : Nat) : List D → Sto → Option (D × Sto)
  | [.key ns, .int i] => fSetd l ns i
  | _ => fun _ => none
def mSetd (mo ma mb : MM D) : MM D := bnd mo fun d => bnd (lft (mdtI d)) fun l => bnd (mArgs [ma, mb]) fun ds => stm (fSetdA l ds)
section
variable {X : Cx} {E : XK} {e e2 : Expr} {es : List Expr} {me : MM D} {pos p : Pos}
theorem VD.mdI {K : PySem.W.Frag} {H : Hp} {φ : List Addr} {v : V} {l : Nat} (h : VD K H φ v (.mdt l)) : ∃ a, v = .ref a ∧ DcAt H φ l a := by
  cases h with
  | mdt h1 h2 => exact ⟨_, rfl, ⟨h1, h2⟩⟩
theorem sz_of {n : Nat} (h : n < 100000) : n < sizeLine := by
  have : (100000 : Nat) < sizeLine := by decide
  omega
theorem de_setd {o : Expr} {mo ma mb : MM D} {apos cpos : Pos} (ho : DE X E o mo) (ha : DA X E [e, e2] (mArgs [ma, mb]))
    (hpe : ∀ {to : TE} {t : TA}, PE X o to → PA X [e, e2] t → PE X (.Call (.Attribute o "setdefault" apos) [e, e2] [] cpos) (tBM X.K "dict" rSetdT to t)) :
    DE X E (.Call (.Attribute o "setdefault" apos) [e, e2] [] cpos) (mSetd mo ma mb) :=
  pe_imp (hpe ho ha) fun σ H Q ⟨en, st, φ, g⟩ => ⟨en, st, φ, g.bind.imp fun st1 d φ1 H1 _ _ ⟨k1, r1, g1⟩ x hx => by
    obtain ⟨l, e0, _, _, g2⟩ := g1.bind.lft
    clear g1
    cases d with
    | mdt l =>
      cases e0
      obtain ⟨a, rfl, ma⟩ := hx.mdI
      obtain ⟨kv0, h0⟩ := ma.dct
      refine ⟨.inr (.inr (.inl ⟨rfl, .inr ⟨kv0, h0⟩⟩)), en, st1, φ1, g2.bind.imp fun st3 vs φ3 H3 _ _ ⟨k3, r3, g5⟩ us hu => ?_⟩
      obtain ⟨z, st4, e4, q4⟩ := g5.stm
      have m3 := k3.dcAt ma
      cases hu with
      | nil => exact nomatch e4
      | @cons v us d1 ds hv hu =>
      cases hu with
      | nil => cases d1 <;> exact nomatch e4
      | @cons u us2 d2 ds2 hw hu2 =>
      cases hu2 with
      | @cons _ _ _ _ _ _ => cases d1 <;> cases d2 <;> exact nomatch e4
      | nil =>
      cases hv with
      | @key b ns hb =>
        cases hw with
        | @int i =>
          change fSetd l ns i st3 = _ at e4
          unfold fSetd at e4
          cases e5 : st3[l]? with
          | none => rw [e5] at e4; cases e4
          | some ds =>
            obtain ⟨ps, c1, c2⟩ := r3.getD l a ds m3 e5
            subst c2
            rw [e5, Option.bind_some, decR_map, Option.bind_some] at e4
            have hbk : H3 b = some (.tup ((ns.map (Sum.inl : Int → Key)).map kV)) := by rw [kV_ints]; exact hb
            have vl := val_look ps ns
            split at e4
            · rename_i hlen
              refine ⟨a, _, ns.map Sum.inl, b, .int i, rfl, rfl, c1, hbk, by rw [List.length_map]; exact sz_of hlen, fun v hv => ?_, fun hn => ?_⟩
              · rw [vl] at hv
                cases e6 : lookI ps ns with
                | none => rw [e6] at hv; cases hv
                | some w =>
                  rw [e6] at e4 hv
                  cases e4; cases hv
                  exact q4 φ3 H3 .refl r3 _ .int
              · rw [vl] at hn
                cases e6 : lookI ps ns with
                | some w => rw [e6] at hn; cases hn
                | none =>
                  rw [e6] at e4
                  cases e4
                  have hn2 : valV (ps.map eV) (ns.map Sum.inl) = none := by rw [vl, e6]; rfl
                  rw [putK_new _ hn2, show ps.map eV ++ [(ns.map Sum.inl, V.int i)] = (ps ++ [(ns, i)]).map eV by rw [List.map_append]; rfl]
                  obtain ⟨kx, rr⟩ := put_dct (ps := ps ++ [(ns, i)]) r3 m3
                  exact q4 φ3 _ kx rr _ .int
            · cases e4
        | _ => exact nomatch e4
      | _ => cases d2 <;> exact nomatch e4
    | _ => cases e0⟩
end
end M2
set_option Elab.async false
set_option linter.all false
set_option maxRecDepth 100000
set_option maxHeartbeats 4000000
namespace M2
open PySem PySem.Spec PyProof.Rows L2 StX
open Classical
variable [Tb]
/-! ### {} that tells tuples -/
def mDct0 : MM D := stm fun st => some (.mdt st.length, st ++ [[]])
section
variable {X : Cx} {E : XK} {e e2 : Expr} {es : List Expr} {me m0 m1 : MM D} {pos p : Pos}
theorem de_dct0 : DE X E (.Dict [] [] pos) mDct0 := pe_imp pe_dnewT fun σ H Q ⟨en, st, φ, g⟩ p hp => by
  obtain ⟨_, rs, _⟩ := id g
  obtain ⟨z, st', e, q⟩ := g.stm
  cases e
  obtain ⟨kx, rr⟩ := lay_dct rs hp
  exact q _ _ kx rr _ (.mdt (by rw [← rs.len, List.getElem?_append_right (Nat.le_refl _)]; simp) ⟨_, upd_same⟩)
/-! ### (x, *a list of ints) -/
def starD (d y : D) (st : Sto) : Option D := match d, y with
  | .int i, .mu l => ((st[l]?).bind intsD).bind fun ns => if ns.length < 100000 then some (.key (i :: ns)) else none
  | _, _ => none
def mStarK (m0 m1 : MM D) : MM D := bnd m0 fun d => bnd m1 fun y => stm fun st => (starD d y st).map fun z => (z, st)
theorem starD_some {d y : D} {st : Sto} {z : D} (h : starD d y st = some z) : ∃ i l ns, d = .int i ∧ y = .mu l ∧ st[l]? = some (ns.map D.int) ∧ ns.length < 100000 ∧ z = .key (i :: ns) := by
  unfold starD at h
  split at h
  · rename_i i l
    cases e : st[l]? with
    | none => rw [e] at h; cases h
    | some ds =>
      rw [e, Option.bind_some] at h
      cases e2 : intsD ds with
      | none => rw [e2] at h; cases h
      | some ns =>
        rw [e2, Option.bind_some] at h
        split at h
        · rename_i c
          cases h
          exact ⟨i, l, ns, rfl, rfl, by rw [e, intsD_eq e2], c, rfl⟩
        · cases h
  · cases h
theorem de_starK {x1 : Nat} (h0 : DE X E e m0) (h1 : DE X E e2 m1)
    (hpa : ∀ {t0 t1 : TE}, PE X e t0 → PE X e2 t1 → PA X [e, .Starred e2 p] (tCons t0 (tStar X.K t1 tNil))) : DE X E (.Tuple [e, .Starred e2 p] x1 pos) (mStarK m0 m1) :=
  pe_imp (pe_tup (hpa h0 h1)) fun σ H Q ⟨en, st, φ, g⟩ => ⟨en, st, φ, g.bind.imp fun st1 d φ1 H1 _ _ ⟨k1, r1, g1⟩ x hx => ⟨en, st1, φ1, g1.bind.imp fun st2 y φ2 H2 _ _ ⟨k2, r2, g2⟩ u hu => by
    obtain ⟨z, st3, e3, q⟩ := g2.stm
    cases e4 : starD d y st2 with
    | none => rw [e4] at e3; cases e3
    | some z' =>
      rw [e4] at e3; cases e3
      obtain ⟨i, l, ns, rfl, rfl, e5, hl, rfl⟩ := starD_some e4
      cases hx
      obtain ⟨a, rfl, ha⟩ := hu.mutI
      obtain ⟨ws, gw, vd⟩ := r2.get l a _ ha e5
      refine ⟨a, ws, rfl, .inr (.of gw), ?_⟩
      have ew : ws = ns.map V.int := vd.ints
      subst ew
      refine ⟨big (by simp; omega), fun p hp => ?_⟩
      obtain ⟨kx, rr⟩ := lay_tup (xs := [V.int i] ++ (ns.map V.int ++ [])) r2 hp
      refine q φ2 _ kx rr _ (.key ?_)
      show upd H2 p (.tup _) p = _
      rw [upd_same]; simp⟩⟩
/-! ### range(a, b) -/
def rng2D : List D → Option IT
  | [.int i, .int j] => if -(2 ^ 62) ≤ i ∧ i < 2 ^ 62 ∧ -(2 ^ 62) ≤ j ∧ j < 2 ^ 62 then some ⟨(List.range (j - i).toNat).map fun (k : Nat) => D.int (i + (k : Int)), none, []⟩ else none
  | _ => none
def mRng2 (ms : List (MM D)) : MM IT := bnd (mArgs ms) fun ds => lft (rng2D ds)
theorem rng2D_some {ds : List D} {it : IT} (h : rng2D ds = some it) : ∃ i j : Int, ds = [.int i, .int j] ∧ (-(2 ^ 62) ≤ i ∧ i < 2 ^ 62 ∧ -(2 ^ 62) ≤ j ∧ j < 2 ^ 62) ∧ it = ⟨(List.range (j - i).toNat).map fun (k : Nat) => D.int (i + (k : Int)), none, []⟩ := by
  unfold rng2D at h
  split at h
  · rename_i i j
    split at h
    · rename_i c
      cases h
      exact ⟨i, j, rfl, c, rfl⟩
    · cases h
  · cases h
theorem itr_rng2 {K : PySem.W.Frag} {i : Int} {n : Nat} {φ0 : List Addr} {H0 : Hp} : ItR K ⟨(List.range n).map fun (k : Nat) => D.int (i + (k : Int)), none, []⟩ (Itr i n) φ0 H0 := fun φ H st kx rs _ => by
  refine ⟨fun j hj => by show j < n; simpa using hj, by show n ≤ ((List.range n).map _).length; simp, fun j x H' hj ⟨e1, e2⟩ => ?_⟩
  subst e1 e2
  have hj' : j < n := by simpa using hj
  exact ⟨.int (i + (j : Int)), by show ((List.range n).map fun (k : Nat) => D.int (i + (k : Int)))[j]? = _; rw [List.getElem?_map, List.getElem?_range hj']; rfl, .refl, rs, .int⟩
theorem di_rng2 {tg a b : Expr} {ms : List (MM D)} (hg : Gl X "range") (hm : X.mg "range" = none) (ha : DA X E [a, b] (mArgs ms)) (hs : starEach [a, b] X.env = [(false, eval a X.env), (false, eval b X.env)]) (hs2 : starEach [b] X.env = [(false, eval b X.env)]) : DI X E tg (.Call (.Name "range" p) [a, b] [] pos) (mRng2 ms) :=
  pi_imp (pi_range2 hg hm ha hs hs2) fun σ H R ⟨en, st, φ, g⟩ => ⟨en, st, φ, g.bind.imp fun st1 ds φ1 H1 _ _ ⟨k1, r1, g1⟩ vs hv => by
    obtain ⟨it, e1, q1⟩ := g1.lft
    obtain ⟨i, j, rfl, c, rfl⟩ := rng2D_some e1
    obtain ⟨v, u, rfl, h1, h2⟩ := hv.two
    cases h1; cases h2
    exact ⟨i, j, rfl, c, q1 _ itr_rng2⟩⟩
/-! ### len of a dict -/
def fLenT : FDB := fun ds st => match ds with
  | [.mdt l] => (st[l]?).map fun r => (.int (r.length : Nat), st)
  | _ => none
theorem cal_lenT : CalD X rLenT fLenT := by
  intro H φ st Q vs ds dz st' rs hv hf q
  unfold fLenT at hf
  split at hf
  · rename_i l
    cases e : st[l]? with
    | none => rw [e] at hf; cases hf
    | some xs =>
      rw [e] at hf; cases hf
      obtain ⟨v, rfl, h⟩ := hv.one
      obtain ⟨a, rfl, ha⟩ := h.mdI
      obtain ⟨ps, g1, g2⟩ := rs.getD l a xs ha e
      subst g2
      refine ⟨a, _, rfl, g1, ?_⟩
      have := q (.int ((ps.map eD).length : Nat)) φ H .refl rs .int
      rwa [List.length_map] at this ⊢
  · cases hf
/-! ### list.index -/
def rIdxK (K : PySem.W.Frag) : V → List V → Hp → VK → Prop := fun x xs H Q => ∃ p ws φ y dx ds kx ks, x = .ref p ∧ xs = [y] ∧ SqL K H p ws ∧ VD K H φ y dx ∧ VDs K H φ ws ds ∧ keyD dx = some kx ∧ keyDs ds = some ks ∧ kx.depth ≤ 40 ∧ ks.length < 100000 ∧ kx ∈ ks ∧ Q (.int (ks.idxOf kx : Nat)) H
theorem mt_indexK {X : Cx} (hu : X.A.units + 64 < cLine) : MtR X "list.index" (rIdxK X.K) := by
  intro pins s σ H x xs v us Q I rx rxs h
  obtain ⟨p, ws, φ, y, dx, ds, kx, ks, rfl, rfl, hq, v1, v2, e1, e2, hd, hz, hm, q⟩ := h
  cases rx
  obtain ⟨u, rfl, rx⟩ := vals1 rxs
  obtain ⟨its, rv, hl, _⟩ := I.list hq
  have c1 := vd_key I v1 e1 rx
  have c2 := vds_key I v2 e2 rv
  have ux : X.A.in1.units + kx.depth < cLine := by show X.A.units + 1 + kx.depth < cLine; omega
  exact SeqAt.call_list_index hl.isList (.nested c2 c1 ux) (Nat.le_of_lt (sz_of hz)) hm ⟨.int _, H, I.tok _, ⟨_, rfl⟩, q⟩
noncomputable def idxK (dx : D) (ds : List D) : Option Nat := (keyD dx).bind fun kx => (keyDs ds).bind fun ks => if kx.depth ≤ 40 ∧ ks.length < 100000 ∧ kx ∈ ks then some (ks.idxOf kx) else none
theorem idxK_some {dx : D} {ds : List D} {n : Nat} (h : idxK dx ds = some n) : ∃ kx ks, keyD dx = some kx ∧ keyDs ds = some ks ∧ kx.depth ≤ 40 ∧ ks.length < 100000 ∧ kx ∈ ks ∧ n = ks.idxOf kx := by
  unfold idxK at h
  cases e1 : keyD dx with
  | none => rw [e1] at h; cases h
  | some kx =>
    cases e2 : keyDs ds with
    | none => rw [e1, e2] at h; cases h
    | some ks =>
      rw [e1, e2, Option.bind_some, Option.bind_some] at h
      split at h
      · rename_i c
        cases h
        exact ⟨kx, ks, rfl, rfl, c.1, c.2.1, c.2.2, rfl⟩
      · cases h
noncomputable def fIdxK (l : Nat) (vs : List D) : Sto → Option (D × Sto) := fun st => match vs with
  | [d] => (st[l]?).bind fun ds => (idxK d ds).map fun n => (.int (n : Nat), st)
  | _ => none
theorem fIdxK_some {l : Nat} {vs : List D} {st st' : Sto} {z : D} (h : fIdxK l vs st = some (z, st')) : ∃ d ds n, vs = [d] ∧ st[l]? = some ds ∧ idxK d ds = some n ∧ z = .int (n : Nat) ∧ st' = st := by
  unfold fIdxK at h
  split at h
  · rename_i d
    cases e : st[l]? with
    | none => rw [e] at h; cases h
    | some ds =>
      rw [e, Option.bind_some] at h
      cases e2 : idxK d ds with
      | none => rw [e2] at h; cases h
      | some n => rw [e2] at h; cases h; exact ⟨d, ds, n, rfl, rfl, e2, rfl, rfl⟩
  · cases h
theorem de_idxK {o : Expr} {mo mv : MM D} {apos cpos : Pos} (ho : DE X E o mo) (ha : DA X E [e] (mArgs [mv]))
    (hpe : ∀ {to : TE} {t : TA}, PE X o to → PA X [e] t → PE X (.Call (.Attribute o "index" apos) [e] [] cpos) (tBM X.K "list" (rIdxK X.K) to t)) :
    DE X E (.Call (.Attribute o "index" apos) [e] [] cpos) (mMt fIdxK mo mv) :=
  pe_imp (hpe ho ha) fun σ H Q ⟨en, st, φ, g⟩ => ⟨en, st, φ, g.bind.imp fun st1 dl φ1 H1 _ _ ⟨k1, r1, g1⟩ x hx => by
    obtain ⟨l, el, _, _, g2⟩ := g1.bind.lft
    rw [locD_some el] at hx
    obtain ⟨p, rfl, hp⟩ := hx.mutI
    have hl : l < st1.length := by rw [← r1.len]; exact (List.getElem?_eq_some_iff.mp hp.at').1
    obtain ⟨ws, gw, _⟩ := r1.get l p st1[l] hp (List.getElem?_eq_getElem hl)
    refine ⟨.inl ⟨rfl, ws, .of gw⟩, en, st1, φ1, g2.bind.imp fun st3 vs φ3 H3 _ _ ⟨k3, r3, g5⟩ us hu => ?_⟩
    obtain ⟨z, st4, e4, q4⟩ := g5.stm
    obtain ⟨d, ds, n, rfl, e5, e6, rfl, rfl⟩ := fIdxK_some e4
    obtain ⟨kx, ks, e7, e8, c1, c2, c3, rfl⟩ := idxK_some e6
    obtain ⟨v, rfl, hv⟩ := hu.one
    obtain ⟨ws3, gw3, vd3⟩ := r3.get l p _ (k3.muAt hp) e5
    exact ⟨p, ws3, φ3, v, d, ds, kx, ks, rfl, rfl, .of gw3, hv, vd3, e7, e8, c1, c2, c3, q4 _ _ .refl r3 _ .int⟩⟩
end
end M2
set_option Elab.async false
set_option linter.all false
set_option maxRecDepth 100000
set_option maxHeartbeats 4000000
namespace M2
open PySem PySem.Spec PyProof.Rows L2
open Classical
variable [Tb]
/-! ### while -/
def sWh (c : MM Bool) (body : MS) : Nat → MS
  | 0 => fun _ _ => none
  | n + 1 => sEx c fun b => if b = true then (fun en st => match body en st with
      | some (.nx, en1, st1) => sWh c body n en1 st1
      | o => o) else sNx
/-- so many turns and no more -/
def sWhile (c : MM Bool) (body : MS) : MS := sWh c body 100000
section
variable {X : Cx} {E : XK} {pos : Pos} {c : Expr} {mt : MM Bool} {m : MS}
theorem ds_while {body : List Stmt} (hp : PassesOwn (model X.prog X.w) X.A X.env X.xe) (hc : DT X E c mt) (hb : DSs X E body m) : DS1 X E (.While c body [] pos) (sWhile mt m) :=
  ps_imp (ps_while hp hc hb) fun D σ H ⟨en, st, φ, g⟩ => by
    refine ⟨fun n σ H => ∃ en st φ, Sat X.K E (sWh mt m n) σ en st φ H D, ⟨_, en, st, φ, g⟩, ?_⟩
    rintro n σ1 H1 ⟨en1, st1, φ1, g1⟩
    cases n with
    | zero =>
      obtain ⟨_, _, _, _, _, e, _⟩ := g1
      cases e
    | succ n =>
      have g2 : Sat X.K E (sEx mt fun b => if b = true then (fun en st => match m en st with
        | some (.nx, en1, st1) => sWh mt m n en1 st1
        | o => o) else sNx) σ1 en1 st1 φ1 H1 D := g1
      refine ⟨en1, st1, φ1, g2.ex'.imp fun st2 b φ2 H2 _ _ ⟨k2, r2, g3⟩ => ?_⟩
      cases b with
      | false =>
        rw [if_neg Bool.false_ne_true] at g3 ⊢
        obtain ⟨re, rs, c, en', st', e, q⟩ := g3
        cases e
        exact q φ2 H2 .refl rs σ1 re
      | true =>
        rw [if_pos rfl] at g3 ⊢
        obtain ⟨re, rs, c, en', st', e, q⟩ := g3
        refine ⟨fun σ' H' => ∃ en st φ, Sat X.K E (sWh mt m n) σ' en st φ H' D, fun σ' H' h => ⟨n, Nat.lt_succ_self n, h⟩, ?_⟩
        cases hm : m en1 st2 with
        | none => simp only [hm] at e; cases e
        | some p =>
          obtain ⟨c2, en4, st4⟩ := p
          refine ⟨en1, st2, φ2, re, rs, c2, en4, st4, hm, fun φ5 H5 kx5 rs5 => ?_⟩
          cases c2 with
          | nx =>
            simp only [hm] at e
            intro σ5 re5
            exact ⟨en4, st4, φ5, re5, rs5, c, en', st', e, fun φ6 H6 kx6 rs6 => q φ6 H6 (kx5.trans kx6) rs6⟩
          | rt d =>
            simp only [hm] at e
            cases e
            exact q φ5 H5 kx5 rs5
          | er d =>
            simp only [hm] at e
            cases e
            exact q φ5 H5 kx5 rs5
end
/-! ### l.pop() -/
def fPop (l : Nat) : Sto → Option (D × Sto) := fun st => (st[l]?).bind fun ds => (ds[ds.length - 1]?).map fun y => (y, st.set l ds.dropLast)
theorem fPop_some {l : Nat} {st st' : Sto} {z : D} (h : fPop l st = some (z, st')) : ∃ ds, st[l]? = some ds ∧ ds[ds.length - 1]? = some z ∧ st' = st.set l ds.dropLast := by
  unfold fPop at h
  cases e : st[l]? with
  | none => rw [e] at h; cases h
  | some ds =>
    rw [e, Option.bind_some] at h
    cases e2 : ds[ds.length - 1]? with
    | none => rw [e2] at h; cases h
    | some y => rw [e2] at h; cases h; exact ⟨ds, rfl, e2, rfl⟩
def mPop (ml : MM D) : MM D := bnd ml fun d => bnd (lft (locD d)) fun l => stm (fPop l)
theorem VDs.dropLast {K : PySem.W.Frag} {H : Hp} {φ : List Addr} {vs : List V} {ds : List D} (h : VDs K H φ vs ds) : VDs K H φ vs.dropLast ds.dropLast := by
  rw [List.dropLast_eq_take, List.dropLast_eq_take, h.length]
  exact h.take _
section
variable {X : Cx} {E : XK} {o e : Expr} {mo mv : MM D} {apos cpos : Pos}
theorem de_pop (ho : DE X E o mo) (hpe : ∀ {to : TE}, PE X o to → PE X (.Call (.Attribute o "pop" apos) [] [] cpos) (tBM0 X.K "list" rPop to)) : DE X E (.Call (.Attribute o "pop" apos) [] [] cpos) (mPop mo) :=
  pe_imp (hpe ho) fun σ H Q ⟨en, st, φ, g⟩ => ⟨en, st, φ, g.bind.imp fun st1 dl φ1 H1 _ _ ⟨k1, r1, g1⟩ x hx => by
    obtain ⟨l, el, _, r2, g2⟩ := g1.bind.lft
    rw [locD_some el] at hx
    obtain ⟨p, rfl, hp⟩ := hx.mutI
    obtain ⟨z, st4, e4, q4⟩ := g2.stm
    obtain ⟨ds, e5, e6, rfl⟩ := fPop_some e4
    obtain ⟨ws, gw, vd⟩ := r1.get l p ds hp e5
    obtain ⟨v, e7, hv⟩ := vd.get e6
    obtain ⟨kx, rr⟩ := put_lst r1 hp vd.dropLast
    exact ⟨.inl ⟨rfl, ws, .of gw⟩, p, ws, v, rfl, rfl, gw, by rw [vd.length]; exact e7, q4 φ1 _ kx rr _ (hv.mono kx)⟩⟩
/-! ### l.extend(another list) -/
def fExt (l : Nat) (vs : List D) : Sto → Option (D × Sto) := fun st => match vs with
  | [.mu k] => (st[l]?).bind fun xs => (st[k]?).bind fun ys => if xs.length + ys.length < 100000 then some (.non, st.set l (xs ++ ys)) else none
  | _ => none
theorem fExt_some {l : Nat} {vs : List D} {st st' : Sto} {z : D} (h : fExt l vs st = some (z, st')) : ∃ k xs ys, vs = [.mu k] ∧ st[l]? = some xs ∧ st[k]? = some ys ∧ xs.length + ys.length < 100000 ∧ z = .non ∧ st' = st.set l (xs ++ ys) := by
  unfold fExt at h
  split at h
  · rename_i k
    cases e : st[l]? with
    | none => rw [e] at h; cases h
    | some xs =>
      rw [e, Option.bind_some] at h
      cases e2 : st[k]? with
      | none => rw [e2] at h; cases h
      | some ys =>
        rw [e2, Option.bind_some] at h
        split at h
        · rename_i c
          cases h
          exact ⟨k, xs, ys, rfl, rfl, e2, c, rfl, rfl⟩
        · cases h
  · cases h
theorem de_ext (ho : DE X E o mo) (ha : DA X E [e] (mArgs [mv])) (hpe : ∀ {to : TE} {t : TA}, PE X o to → PA X [e] t → PE X (.Call (.Attribute o "extend" apos) [e] [] cpos) (tBM X.K "list" rExtend to t)) :
    DE X E (.Call (.Attribute o "extend" apos) [e] [] cpos) (mMt fExt mo mv) :=
  pe_imp (hpe ho ha) fun σ H Q ⟨en, st, φ, g⟩ => ⟨en, st, φ, g.bind.imp fun st1 dl φ1 H1 _ _ ⟨k1, r1, g1⟩ x hx => by
    obtain ⟨l, el, _, _, g2⟩ := g1.bind.lft
    rw [locD_some el] at hx
    obtain ⟨p, rfl, hp⟩ := hx.mutI
    have hl : l < st1.length := by rw [← r1.len]; exact (List.getElem?_eq_some_iff.mp hp.at').1
    obtain ⟨ws, gw, _⟩ := r1.get l p st1[l] hp (List.getElem?_eq_getElem hl)
    refine ⟨.inl ⟨rfl, ws, .of gw⟩, en, st1, φ1, g2.bind.imp fun st3 vs φ3 H3 _ _ ⟨k3, r3, g5⟩ us hu => ?_⟩
    obtain ⟨z, st4, e4, q4⟩ := g5.stm
    obtain ⟨k, xs, ys, rfl, e5, e6, hl, rfl, rfl⟩ := fExt_some e4
    obtain ⟨u, rfl, hu2⟩ := hu.one
    obtain ⟨b, rfl, hb⟩ := hu2.mutI
    have hp3 := k3.muAt hp
    obtain ⟨ws3, gw3, vd3⟩ := r3.get l p _ hp3 e5
    obtain ⟨zs3, gz3, vz3⟩ := r3.get k b _ hb e6
    obtain ⟨kx, rr⟩ := put_lst r3 hp3 (vd3.app vz3)
    exact ⟨p, b, ws3, zs3, rfl, rfl, gw3, gz3, Nat.le_of_lt (sz_of (by rw [vd3.length, vz3.length]; exact hl)), q4 φ3 _ kx rr _ .non⟩⟩
end
end M2
set_option Elab.async false
set_option linter.all false
set_option maxRecDepth 100000
set_option maxHeartbeats 4000000
namespace M2
open PySem PySem.Spec PyProof.Rows L2
variable [Tb]
/-! ### t[:0:-1] of a tuple that is not empty -/
section
variable {prog : Program} {w : World} {A : Around} {E : Value → Shared → Prop} {s : Shared}
theorem bk1_part {sl : Addr} {u v : Tok} {m : Nat} {R : Int × Int × Nat → Shared → Prop} (q : s.heap.IsSliceOf sl .none (.int 0 v) (.int (-1) u)) (h : R ((m : Int), -1, m) s) :
    wpAny (model prog w) A (Builtin.Slice.sliceApplied (.ref sl) (pure ((m + 1 : Nat) : Int))) R E s := by
  have ⟨ob, e1, e2, e3⟩ := q
  unfold Builtin.Slice.sliceApplied Builtin.Slice.sliceFields
  refine wpAny_bind (wpAny_bind (wpAny_field e1 e3 (x := .none) rfl (wpAny_bind (wpAny_field e1 e3 (x := .int 0 v) rfl (wpAny_bind (wpAny_field e1 e3 (x := .int (-1) u) rfl (wpAny_pure ?_)))))))
  refine wpAny_bind (PyProof.Rows.slicePart_int ?_)
  show wpAny _ _ (if ((-1 : Int) == 0) = true then _ else _) _ _ s
  rw [if_neg (by decide)]
  refine wpAny_bind (PyProof.Rows.slicePart_none (wpAny_bind (PyProof.Rows.slicePart_int (wpAny_bind (wpAny_pure ?_)))))
  have adj : Builtin.Slice.sliceAdjust none (some 0) (-1) ((m + 1 : Nat) : Int) = ((m : Int), 0) := by
    unfold Builtin.Slice.sliceAdjust
    simp
    omega
  have plc : Builtin.Slice.slicePlaces (m : Int) 0 (-1) = m := by
    unfold Builtin.Slice.slicePlaces
    rw [if_neg (by decide), show (- -1 : Int) = 1 from rfl, Int.ediv_one]
    split <;> omega
  show wpAny _ _ (match Builtin.Slice.sliceAdjust none (some 0) (-1) ((m + 1 : Nat) : Int) with | (lo, hi) => pure (lo, (-1 : Int), Builtin.Slice.slicePlaces lo hi (-1))) _ _ s
  rw [adj]
  show wpAny _ _ (pure ((m : Int), (-1 : Int), Builtin.Slice.slicePlaces (m : Int) 0 (-1))) _ _ s
  rw [plc]
  exact wpAny_pure h
theorem fm_congr {α β : Type} {f g : α → Option β} : ∀ {l : List α}, (∀ a ∈ l, f a = g a) → l.filterMap f = l.filterMap g
  | [], _ => rfl
  | a :: l, h => by
    rw [List.filterMap_cons, List.filterMap_cons, h a List.mem_cons_self, fm_congr fun b hb => h b (List.mem_cons_of_mem _ hb)]
theorem bk1_pick (x : Value) (xs : List Value) : ((List.range xs.length).filterMap fun (k : Nat) => (x :: xs).toArray[((xs.length : Int) + (k : Int) * (-1)).toNat]?).toArray = xs.reverse.toArray := by
  have e : ((List.range xs.length).filterMap fun (k : Nat) => (x :: xs).toArray[((xs.length : Int) + (k : Int) * (-1)).toNat]?) = ((List.range xs.length).map fun k => xs.length - 1 - k).filterMap (xs.toArray[·]?) := by
    rw [List.filterMap_map]
    refine fm_congr fun k hk => ?_
    show _ = xs.toArray[xs.length - 1 - k]?
    have hk' := List.mem_range.mp hk
    have e1 : ((xs.length : Int) + (k : Int) * (-1)).toNat = (xs.length - 1 - k) + 1 := by omega
    rw [e1]; simp
  have z : xs.length = xs.toArray.size := by simp
  rw [e, PySem.W.krv_range, List.filterMap_reverse, z, PySem.W.krv_all]
theorem bk1_item {t sl : Addr} {x : Value} {xs : List Value} {u v : Tok} {R : Value → Shared → Prop} (ht : IsTup s.heap t (x :: xs).toArray) (q : s.heap.IsSliceOf sl .none (.int 0 v) (.int (-1) u))
    (h : R (.ref s.heap.objs.size) { s with heap := s.heap.push { cls := .type "tuple", data := .seq xs.reverse.toArray } }) (big : (x :: xs).toArray.size ≤ sizeLine) : wpAny (model prog w) A (getItem (.ref t) (.ref sl)) R E s := by
  have fit : sizeOk (.seq xs.reverse.toArray) := by
    show xs.reverse.toArray.size ≤ sizeLine
    rw [List.size_toArray, List.length_cons] at big
    rw [List.size_toArray, List.length_reverse]; omega
  have ⟨ob, e1, e2, e3⟩ := q
  have isl : s.TypeIs (.ref sl) "slice" := ⟨ob, e1, e2⟩
  unfold getItem
  try (with_reducible refine wpAny_holding ?_)
  try refine wpAny_bind (wpAny_pure ?_)
  refine wpAny_bind (wpAny_sequenceKey ht.typeIs (by decide) (wpAny_bind (wpAny_callSpecial?_slot (name := Str.ofString "__getitem__") ht.typeIs PyProof.Rows.slot_tuple_getitem (wpAny_call_entry PyProof.Rows.slot_tuple_getitem ht.typeIs entry_tuple_getitem ?_ (args_tuple_getitem _ _)))))
  show wpAny _ _ (Builtin.Tuple.tupleItemsOf (.ref t) >>= _) _ _ s
  refine wpAny_bind (tupleItemsOf_ ht (wpAny_bind (wpAny_typeOf isl ?_)))
  rw [if_pos (by decide)]
  refine wpAny_bind (bk1_part (m := xs.length) q ?_)
  show wpAny _ _ (if ((xs.length : Int) == 0 && (-1 : Int) == 1 && xs.length == (x :: xs).toArray.size) = true then _ else _) _ _ s
  rw [if_neg (by simp), bk1_pick x xs]
  first
    | exact wpAny_bind (m := Builtin.Tuple.tupleExact _) (wpAny_newObj_type (wpAny_pure ⟨_, rfl, wpAny_pure h⟩) fit)
    | exact wpAny_bind (m := Builtin.Tuple.tupleExact _) (wpAny_newObj_type (wpAny_bind (wpAny_pure (wpAny_pure ⟨_, rfl, wpAny_pure h⟩))) fit)
    | exact wpAny_bind (wpAny_bind (m := Builtin.Tuple.tupleExact _) (wpAny_newObj_type (wpAny_pure (wpAny_pure ⟨_, rfl, wpAny_pure h⟩)) fit))
    | exact wpAny_bind (wpAny_bind (m := Builtin.Tuple.tupleExact _) (wpAny_newObj_type (wpAny_pure ⟨_, rfl, wpAny_pure h⟩) fit))
end
section
variable {X : Cx} {E : XK} {e : Expr} {me : MM D} {pos : Pos}
def tBk1 (K : PySem.W.Frag) (te : TE) : TE := fun σ H Q => te σ H fun x H1 => ∃ a y ys, x = .ref a ∧ SqT K H1 a (y :: ys) ∧ ∀ p, H1 p = none → Q (.ref p) (upd H1 p (.tup ys.reverse))
theorem pe_bk1 {te : TE} {k k0 : Nat} {p0 p1 p2 p3 : Pos} (he : PE X e te) : PE X (.Subscript e (.Slice none (some (.Constant (.int 0) k0 p0)) (some (.UnaryOp .USub (.Constant (.int 1) k p1) p2)) p3) pos) (tBk1 X.K te) := by
  refine ⟨fun pins s σ H Q I h => Subscript_ (thn (he.run pins s σ H _ I h) fun v s1 ⟨x, H1, I1, r1, q1⟩ => ?_)⟩
  obtain ⟨a, y, ys, ex, hx, q⟩ := q1
  subst ex
  cases r1
  have stp : PO X (some (.UnaryOp .USub (.Constant (.int 1) k p1) p2)) (tPart (tUn (rU fun i => .int (-i)) (tC (.int 1)))) := po_some (pe_un un_neg pe_int)
  have upp : PO X (some (.Constant (.int 0) k0 p0)) (tPart (tC (.int 0))) := po_some pe_int
  refine wpAny_Slice (thn (po_none.run pins s1 σ H1 (fun o Hb => o = none ∧ Hb = H1) I1 ⟨rfl, rfl⟩) fun vl s2 ⟨l, Hb, I2, pl, el, eb⟩ => ?_)
  subst el eb
  refine thn (upp.run pins s2 σ Hb (fun o Hc => o = some 0 ∧ Hc = Hb) I2 ⟨0, rfl, rfl, rfl⟩) fun vu s3 ⟨u, Hc, I3, pu, eu, ec⟩ => ?_
  subst eu ec
  refine thn (stp.run pins s3 σ Hc (fun o Hd => o = some (-1) ∧ Hd = Hc) I3 ⟨1, rfl, -1, rfl, rfl, rfl⟩) fun vs s4 ⟨o, Hd, I4, ps, eo, ed⟩ => ?_
  subst eo ed
  have J : Inv X pins σ Hd { s4 with heap := s4.heap.push { cls := .type "slice", data := .fields #[vl, vu, vs] } } := I4.kept (t' := s4.toks) fun b ob z => Heap.get?_push_of_some _ z
  show wpAny (model X.prog X.w) X.A (subscriptTail e (.Slice none (some (.Constant (.int 0) k0 p0)) (some (.UnaryOp .USub (.Constant (.int 1) k p1) p2)) p3) (.ref a) (.ref s4.heap.objs.size)) (EP X pins σ Q) X.xe { s4 with heap := s4.heap.push { cls := .type "slice", data := .fields #[vl, vu, vs] } }
  obtain ⟨its, r, ht, hz⟩ := J.tuple hx
  cases pl
  cases pu with
  | int _ t0 =>
    cases ps with
    | int i t =>
      cases r with
      | @cons _ u0 _ us r0 rr =>
        refine tail_any (ops := [.ref a, .ref s4.heap.objs.size]) ht.typeIs (PyProof.Rows.slot_tuple_getitem.lookup) (bk1_item ht (Heap.IsSliceOf.new _ _ _ _) ?_ (by rw [List.size_toArray, List.length_cons]; have := rr.length; rw [List.length_cons] at hz; omega)) (by with_unfolding_all rfl)
        exact ⟨.ref _, _, J.laid (t' := s4.toks) (o := .tup ys.reverse) (fun b ob z => Heap.get?_push_of_some _ z) (Nat.le_refl _) ⟨by rw [List.length_reverse]; rw [List.length_cons] at hz; omega, _, (show Vals ys us from rr).reverse, IsTup.new _ _⟩, rfl, q _ (J.hok.fresh (Nat.le_refl _))⟩
def fBk1 (d : D) : Sto → Option (D × Sto) := fun st => match d with
  | .tup (_ :: xs) => some (.tup xs.reverse, st)
  | _ => none
def mBk1 (m : MM D) : MM D := bnd m fun d => stm (fBk1 d)
theorem de_bk1 {k k0 : Nat} {p0 p1 p2 p3 : Pos} (he : DE X E e me) : DE X E (.Subscript e (.Slice none (some (.Constant (.int 0) k0 p0)) (some (.UnaryOp .USub (.Constant (.int 1) k p1) p2)) p3) pos) (mBk1 me) :=
  pe_imp (pe_bk1 he) fun σ H Q ⟨en, st, φ, g⟩ => ⟨en, st, φ, g.bind.imp fun st1 d φ1 H1 _ _ ⟨k1, r1, g1⟩ v hv => by
    obtain ⟨z, st2, e, q⟩ := g1.stm
    unfold fBk1 at e
    split at e
    · rename_i y xs _
      cases e
      obtain ⟨a, ws, rfl, h1, h2⟩ := hv.tupI
      cases h2 with
      | @cons w ws _ _ h3 h4 =>
        refine ⟨a, w, ws, rfl, h1, fun p hp => ?_⟩
        obtain ⟨kx, rr⟩ := lay_tup (xs := ws.reverse) r1 hp
        exact q _ _ kx rr _ (.tup (.inl (.inl upd_same)) (h4.rev.mono kx))
    · cases e⟩
end
end M2
set_option Elab.async false
set_option linter.all false
set_option maxRecDepth 100000
set_option maxHeartbeats 4000000
namespace PySem
open Builtin AutoSeq1
/-- a list is lengthened by a tuple, however the tuple stands -/
theorem extT_meets {l b : Addr} {xs ys : Array Value} {n m : Nat} {dd : Option Addr} {sl : Array (Option Value)} (k0 : ¬(!xs.isEmpty && List.listTooLong (xs.size + ys.size)) = true) (k1 : xs.size ≤ sizeLine) (k2 : xs.size + ys.size ≤ sizeLine + 1) :
    Meets («list.extend» ⟨[.ref l, .ref b], []⟩) (fun _ R s => s.heap.get? l = some ⟨.type "list", none, .seq xs n, #[]⟩ ∧
      s.heap.get? b = some ⟨.type "tuple", dd, .seq ys m, sl⟩ ∧
      R (.ok (.ret Value.none)) { s with heap := s.heap.update l (Obj.mapSeq (· ++ ys)) }) := by
  refine .of_wp fun prog w A R s h => ?_
  obtain ⟨hp, g, d, tk, os⟩ := s
  obtain ⟨kl, kb, h⟩ := h
  have q1 := sub_tuple_tuple
  have q2 := sub_list_list
  have q3 := sub_tuple_list
  have q4 := sub_list_tuple
  have kz : (xs ++ ys).size ≤ sizeLine + 1 := Nat.le_trans (Nat.le_of_eq Array.size_append) k2
  wp_walk using (wpAny_updateSeq kl rfl (hz := k1) (_hz' := kz)), wpAny_loadPart' kl, wpAny_loadPart' kb
  exact ⟨_, rfl, h⟩
end PySem
namespace M2
open PySem PySem.Spec PyProof.Rows L2
open Classical
variable [Tb]
def rExtT (K : PySem.W.Frag) : V → List V → Hp → VK → Prop := fun x vs H Q => ∃ l b xs zs, x = .ref l ∧ vs = [.ref b] ∧ H l = some (.lst xs) ∧ SqT K H b zs ∧ xs.length + zs.length ≤ sizeLine ∧ Q .non (upd H l (.lst (xs ++ zs)))
theorem mt_extT {X : Cx} : MtR X "list.extend" (rExtT X.K) := by
  intro pins s σ H x vs v us Q I rx rv h
  obtain ⟨l, b, xs, zs, rfl, rfl, hH, hB, hz, q⟩ := h
  cases rx
  obtain ⟨u, rfl, ru⟩ := vals1 rv
  cases ru
  obtain ⟨z, its, n, r, hl, e⟩ := I.lstM hH
  obtain ⟨its2, r2, ⟨⟨cls, dd, data, sl⟩, e2, hc, m, hd⟩, z2⟩ := I.tuple hB
  simp only at hc hd
  subst hc hd
  have hl2 := r2.length
  have zz : its.toArray.size + its2.toArray.size ≤ sizeLine := by rw [List.size_toArray, List.size_toArray]; omega
  have nl : ¬ (!its.toArray.isEmpty && Builtin.List.listTooLong (its.toArray.size + its2.toArray.size)) = true := by
    rw [notLongL zz, Bool.and_false]
    exact Bool.false_ne_true
  refine call_meets F.slot_list_extend ⟨_, e, rfl⟩ F.entry_list_extend (F.args_list_extend_2 _ _)
    (extT_meets (m := m) (dd := dd) (sl := sl) (n := n) nl (by rw [List.size_toArray]; omega) (by omega)) ⟨e, e2, ?_⟩
  exact ⟨.non, _, I.lset (its' := its ++ its2) hH e (by simp) (r.append r2) (by rw [List.length_append]; omega), rfl, q⟩
def fExtT (l : Nat) (vs : List D) : Sto → Option (D × Sto) := fun st => match vs with
  | [.tup ys] => (st[l]?).bind fun xs => if xs.length + ys.length < 100000 then some (.non, st.set l (xs ++ ys)) else none
  | _ => none
theorem fExtT_some {l : Nat} {vs : List D} {st st' : Sto} {z : D} (h : fExtT l vs st = some (z, st')) : ∃ xs ys, vs = [.tup ys] ∧ st[l]? = some xs ∧ xs.length + ys.length < 100000 ∧ z = .non ∧ st' = st.set l (xs ++ ys) := by
  unfold fExtT at h
  split at h
  · rename_i ys
    cases e : st[l]? with
    | none => rw [e] at h; cases h
    | some xs =>
      rw [e, Option.bind_some] at h
      split at h
      · rename_i c
        cases h
        exact ⟨xs, ys, rfl, rfl, c, rfl, rfl⟩
      · cases h
  · cases h
section
variable {X : Cx} {E : XK} {o e : Expr} {mo mv : MM D} {apos cpos : Pos}
theorem de_extT (ho : DE X E o mo) (ha : DA X E [e] (mArgs [mv])) (hpe : ∀ {to : TE} {t : TA}, PE X o to → PA X [e] t → PE X (.Call (.Attribute o "extend" apos) [e] [] cpos) (tBM X.K "list" (rExtT X.K) to t)) :
    DE X E (.Call (.Attribute o "extend" apos) [e] [] cpos) (mMt fExtT mo mv) :=
  pe_imp (hpe ho ha) fun σ H Q ⟨en, st, φ, g⟩ => ⟨en, st, φ, g.bind.imp fun st1 dl φ1 H1 _ _ ⟨k1, r1, g1⟩ x hx => by
    obtain ⟨l, el, _, _, g2⟩ := g1.bind.lft
    rw [locD_some el] at hx
    obtain ⟨p, rfl, hp⟩ := hx.mutI
    have hl : l < st1.length := by rw [← r1.len]; exact (List.getElem?_eq_some_iff.mp hp.at').1
    obtain ⟨ws, gw, _⟩ := r1.get l p st1[l] hp (List.getElem?_eq_getElem hl)
    refine ⟨.inl ⟨rfl, ws, .of gw⟩, en, st1, φ1, g2.bind.imp fun st3 vs φ3 H3 _ _ ⟨k3, r3, g5⟩ us hu => ?_⟩
    obtain ⟨z, st4, e4, q4⟩ := g5.stm
    obtain ⟨xs, ys, rfl, e5, hl, rfl, rfl⟩ := fExtT_some e4
    obtain ⟨u, rfl, hu2⟩ := hu.one
    obtain ⟨b, zs, rfl, hb, vz3⟩ := hu2.tupI
    have hp3 := k3.muAt hp
    obtain ⟨ws3, gw3, vd3⟩ := r3.get l p _ hp3 e5
    obtain ⟨kx, rr⟩ := put_lst r3 hp3 (vd3.app vz3)
    exact ⟨p, b, ws3, zs, rfl, rfl, gw3, hb, Nat.le_of_lt (sz_of (by rw [vd3.length, vz3.length]; exact hl)), q4 φ3 _ kx rr _ .non⟩⟩
end
end M2
set_option Elab.async false
set_option linter.all false
set_option maxRecDepth 100000
set_option maxHeartbeats 4000000
namespace M2
open PySem PySem.Spec PyProof.Rows L2
variable [Tb]
/-! ### exceptions held as values -/
abbrev allN : List Str := "PickError" :: clsNames
def isaV (n m : Str) : Bool := m == n || m == "PickError"
/-- what the module says of a class whose instances are asked for their class -/
def kndV (K : PySem.W.Frag) (n : Str) : Bool :=
  excB K (clsA K n) && (allN.all (fun m => decide (PySem.W.kitOne K (.ref (clsA K n)) (.ref (clsA K m)) = some (isaV n m))) && decide (PySem.W.kitOne K (.ref (clsA K n)) (.type "ValueError") = some true))
structure KndV (K : PySem.W.Frag) (n : Str) : Prop where
  e : ExcC K (clsA K n)
  k : ∀ m, allN.contains m = true → PySem.W.kitOne K (.ref (clsA K n)) (.ref (clsA K m)) = some (isaV n m)
  v : PySem.W.kitOne K (.ref (clsA K n)) (.type "ValueError") = some true
theorem kndV_of {K : PySem.W.Frag} {n : Str} (h : kndV K n = true) : KndV K n := by
  simp only [kndV, Bool.and_eq_true, decide_eq_true_eq] at h
  obtain ⟨h1, h2, h3⟩ := h
  exact ⟨excB_ok h1, fun m hm => of_decide_eq_true (List.all_eq_true.mp h2 m (List.contains_iff_mem.mp hm)), h3⟩
def ExAt (H : Hp) (a D : Addr) : Prop := H a = some (ExO (.ref D) a) ∨ ∃ dd fs, H a = some (exo a D (some dd)) ∧ H dd = some (exd dd fs)
section
variable {X : Cx} {E : XK} {pins : List (Addr × Obj)} {σ : L2.St} {H : Hp} {s : Shared}
theorem exAt_inst {a D : Addr} (I : Inv X pins σ H s) (h : ExAt H a D) : ∃ oe od, PySem.W.InstAt s.heap a oe D od := by
  rcases h with h | ⟨dd, fs, h1, h2⟩
  · obtain ⟨⟨oe, vs, ho, hz, hd, _⟩, _, _⟩ := I.hok a _ h
    exact ⟨oe, none, ho, hz.1, by unfold PySem.W.notCls; rw [hd] <;> rfl, by rw [hz.2]; exact True.intro⟩
  · obtain ⟨t1, ho⟩ := exo_at I.hok h1
    obtain ⟨mA, hns, _⟩ := exd_at I.hok h2
    obtain ⟨o, es, ep, e1, _⟩ := hns
    exact ⟨_, some o, ho, rfl, rfl, e1⟩
def rIsV (K : PySem.W.Frag) : List V → Hp → VK → Prop := fun xs H Q => ∃ (a D : Addr) (c : V) (cv : Value) (b : Bool), xs = [.ref a, c] ∧ ExAt H a D ∧ ExcC K D ∧ (∀ u, RelV c u → u = cv) ∧ PySem.W.kitOne K (.ref D) cv = some b ∧ Q (.bl b) H
theorem call_isV : CallR X (.builtin "isinstance") (rIsV X.K) := by
  rintro pins s σ H xs us Q I r ⟨a, D, c, cv, b, rfl, ha, C, hcv, e, q⟩
  obtain ⟨u1, u2, rfl, r1, r2⟩ := r.two
  cases r1
  obtain rfl := hcv _ r2
  obtain ⟨oe, od, J⟩ := exAt_inst I ha
  obtain ⟨cd, hc, _⟩ := PySem.W.any_some C.hd
  exact PySem.W.kia_one (PySem.W.kitx_exc (by rw [hc]; rfl) C.hg C.hk C.hs C.ha C.hn C.ht C.hm) I.kIn J e (fun z => nomatch z) fun t => ⟨.bl b, H, I.kept (t' := t) fun _ _ z => z, rfl, q⟩
def exN : D → Option Str
  | .exc n => some n
  | .exf n _ => some n
  | _ => none
def fIsV : FDB := fun ds st => match ds with
  | [d, c] => (exN d).bind fun n => if allN.contains n = true then (match c with
    | .cln m => if allN.contains m = true then some (.bl (isaV n m), st) else none
    | .ty t => if t = "ValueError" then some (.bl true, st) else none
    | _ => none) else none
  | _ => none
theorem exN_at {K : PySem.W.Frag} {φ : List Addr} {v : V} {d : D} {n : Str} (h : VD K H φ v d) (e : exN d = some n) : ∃ a, v = .ref a ∧ ExAt H a (clsA K n) := by
  cases d <;> first | (cases e; done) | skip
  · cases e
    cases h with
    | exc h => exact ⟨_, rfl, .inl h⟩
  · cases e
    cases h with
    | exf h1 h2 => exact ⟨_, rfl, .inr ⟨_, _, h1, h2⟩⟩
theorem cal_isV (I : ∀ n, allN.contains n = true → KndV X.K n) : CalD X (rIsV X.K) fIsV := by
  intro H φ st Q vs ds dz st' rs hv hf q
  unfold fIsV at hf
  split at hf
  · rename_i d c
    cases e : exN d with
    | none => rw [e] at hf; cases hf
    | some n =>
      rw [e, Option.bind_some] at hf
      split at hf
      · rename_i hn
        obtain ⟨v, u, rfl, h1, h2⟩ := hv.two
        obtain ⟨a, rfl, ha⟩ := exN_at h1 e
        have J := I n hn
        split at hf
        · rename_i m
          split at hf
          · rename_i hm
            cases hf
            cases h2
            exact ⟨a, clsA X.K n, _, .ref (clsA X.K m), _, rfl, ha, J.e, fun u hu => hu, J.k m hm, q _ φ H .refl rs .bl⟩
          · cases hf
        · rename_i t
          split at hf
          · rename_i ht
            subst ht
            cases hf
            cases h2
            exact ⟨a, clsA X.K n, _, .type "ValueError", _, rfl, ha, J.e, fun u hu => hu, J.v, q _ φ H .refl rs .bl⟩
          · cases hf
        · cases hf
      · cases hf
  · cases hf
abbrev veM : List Value := [.type "ValueError", .type "Exception", .type "BaseException", .type "object"]
/-- a class without its own making, called -/
structure KndM (K : PySem.W.Frag) (n : Str) : Prop where
  q : PySem.W.excIn K (clsA K n) veM "ValueError.__new__" = true
  kp : PySem.W.keepIn K (.ref (clsA K n)) = true
def kndM (K : PySem.W.Frag) (n : Str) : Bool := PySem.W.excIn K (clsA K n) veM "ValueError.__new__" && PySem.W.keepIn K (.ref (clsA K n))
theorem kndM_of {K : PySem.W.Frag} {n : Str} (h : kndM K n = true) : KndM K n := by
  simp only [kndM, Bool.and_eq_true] at h
  exact ⟨h.1, h.2⟩
theorem pe_mk0 {x : Str} {C : Addr} {p pos : Pos} (q : PySem.W.excIn X.K C veM "ValueError.__new__" = true) (gC : X.mg x = some (.ref C)) (kC : PySem.W.keepIn X.K (.ref C) = true) (hg : Gl X x) (hdb : (x == ("__debug__" : Str)) = false) :
    PE X (.Call (.Name x p) [] [] pos) (fun σ H Q => ∀ a, H a = none → Q (.ref a) (upd H a (ExO (.ref C) a))) := by
  refine ⟨fun pins s σ H Q I h => wpAny_Call_Name_kw (ld_glob I hg gC (PySem.W.callWith_K0 I.kIn kC ?_) hdb)⟩
  obtain ⟨bm, N, nm, qn, bs, hdct, sn, sub, ab, col, dd, k0, k1, k2, k3, k5, mN, hC, hN, hni, T⟩ := exc_obj I.kIn q
  refine wpAny_call_exc_subT PySem.F.excBase_ValueError T hC hN hni (fun h' e hm => ?_) (Nat.zero_le _)
  have hn := I.hok.gone hm.new
  obtain ⟨t, ht, _, _⟩ := hm.there
  exact ⟨.ref e, upd H e (ExO (.ref C) e), I.laidN hm.keeps hm.new hn (exO_ok ht ⟨rfl, rfl⟩ rfl rfl rfl (show 4 < 6 by decide)), rfl, h e hn⟩
theorem de_mk0 {x : Str} {p pos : Pos} (M : KndM X.K x) (gC : X.mg x = some (.ref (clsA X.K x))) (hg : Gl X x) (hdb : (x == ("__debug__" : Str)) = false) : DE X E (.Call (.Name x p) [] [] pos) (ret (.exc x)) :=
  pe_imp (pe_mk0 M.q gC M.kp hg hdb) fun σ H Q ⟨en, st, φ, re, rs, r, st', e, q⟩ a ha => by
    cases e
    obtain ⟨k1, r1⟩ := lay_any (o := ExO (.ref (clsA X.K x)) a) rs ha (fun _ z => nomatch z)
    exact q _ _ k1 r1 _ (.exc upd_same)
def mMk1 (x : Str) (m : MM D) : MM D := bnd m fun _ => ret (.exc x)
theorem de_mk1 {x : Str} {e : Expr} {m : MM D} {p pos : Pos} (M : KndM X.K x) (gC : X.mg x = some (.ref (clsA X.K x))) (hg : Gl X x) (he : DE X E e m) (hdb : (x == ("__debug__" : Str)) = false) (hs : starEach [e] X.env = (false, eval e X.env) :: starEach [] X.env) :
    DE X E (.Call (.Name x p) [e] [] pos) (mMk1 x m) :=
  pe_imp (pe_exc1 PySem.F.excBase_ValueError M.q gC M.kp hg he hs hdb) fun σ H Q ⟨en, st, φ, g⟩ => ⟨en, st, φ, g.bind.imp fun st1 d φ1 H1 _ rs1 ⟨k1, r1, g1⟩ v hv a ha => by
    obtain ⟨re, rs, r, st', em, q⟩ := g1
    cases em
    obtain ⟨k2, r2⟩ := lay_any (o := ExO (.ref (clsA X.K x)) a) rs ha (fun _ z => nomatch z)
    exact q _ _ k2 r2 _ (.exc upd_same)⟩
end
end M2
set_option Elab.async false
set_option linter.all false
set_option maxRecDepth 100000
set_option maxHeartbeats 4000000
namespace M2
open PySem PySem.Spec PyProof.Rows L2 PySem.HandSPX
open Builtin Builtin.ObjectAttr
/-! ### an exception class with its own making, called with keywords too -/
section
variable {M : Model} {prog : Program} {w : World} {A : Around} {E : Value → Shared → Prop} {R : Result → Shared → Prop} {h : Heap} {g : Array GenState} {d : Drawn} {t : Nat} {os : OsState}
variable {nm q : Str} {C N : Addr} {bs bm bmB : List Value} {hdct : Bool} {sn : List Str} {sub : List Value} {ab : Bool} {col : Option Bool} {dd : Option Addr} {k0 k1 k2 k3 k5 : Option Value} {B newId initId : String} {rest : List Value} {kw : List (Str × Value)}
theorem kwo_check {Q : Unit → Shared → Prop} (F : ExcBaseFacts B newId initId bmB) (hT : ∀ X : String, bm.contains (.type X) = bmB.contains (.type X)) (eC : h.get? C = some (excClassObj nm q C N bs bm hdct sn sub ab col dd k0 k1 k2 k3 k5 newId))
    (hq : Q () ⟨h, g, d, t, os⟩) : wpAny M A (checkBuiltinCall newId ⟨.ref C :: rest, kw⟩) Q E ⟨h, g, d, t, os⟩ := by
  have c1 : (Value.ref C :: bm).contains (.type B) = true := by rw [List.contains_cons, hT, F.hasB] <;> simp
  have c2 := F.noStar
  simp only [checkBuiltinCall, F.newKind, F.newRow, F.newSplit]
  repeat (first | refine wpAny_loadPart_at eC ?_ | (refine wpAny_isSubtype_exc eC ?_; rw [c1]) | refine wpAny_staticBase_exc eC ?_ | refine wpAny_madeBy_exc eC ?_ | simp only [bne_self_eq_false, Bool.false_eq_true, if_false] | wp_step)
  exact hq
theorem kwo_new (F : ExcBaseFacts B newId initId bmB) (hT : ∀ X : String, bm.contains (.type X) = bmB.contains (.type X)) (eC : h.get? C = some (excClassObj nm q C N bs bm hdct sn sub ab col dd k0 k1 k2 k3 k5 newId))
    (hq : R (.ok (.ret (.ref (h.objs.size + 1)))) ⟨(h.push (PySem.W.kdv_tup rest)).push (excO C h.objs.size), g, d, t, os⟩) (hz : rest.length ≤ sizeLine) : codeAny (model prog w) A (.builtin newId ⟨.ref C :: rest, kw⟩) R ⟨h, g, d, t, os⟩ := by
  have c0 := F.ends
  have c1 : (Value.ref C :: bm).contains (.type B) = true := by rw [List.contains_cons, hT, F.hasB] <;> simp
  have c2 : (Value.ref C :: bm).contains (.type "AttributeError") = false := by rw [List.contains_cons, hT, F.noAttr] <;> rfl
  have c3 : (Value.ref C :: bm).contains (.type "NameError") = false := by rw [List.contains_cons, hT, F.noName] <;> rfl
  refine PySem.codeAny_builtinAt F.entry (?_ : _)
  unfold Builtin.«BaseException.__new__»
  refine PySem.wpAt_bind (?_ : _)
  show PySem.wpAt _ _ _ (stack >>= _) _ _ _
  refine PySem.wpAt_bind (PySem.wpAt_stack (fun p below => PySem.wpAt_of_wpAny ?_))
  wp_walk
  refine PySem.wpAt_of_wpAny (?_ : _)
  rw [F.owner]
  repeat (first | with_reducible refine wpAny_madeHere_exc F.canon eC ?_ | with_reducible refine wpAny_loadPart_at eC ?_ | (with_reducible refine wpAny_isSubtype_exc eC ?_; first | rw [c1] | rw [c2] | rw [c3]) | wp_step)
  show R _ _
  rw [Heap.size_push]
  exact hq
theorem kwo_type {fI : Addr} {Q : Fin → Shared → Prop} (F : ExcBaseFacts B newId initId bmB) (hT : ∀ X : String, bm.contains (.type X) = bmB.contains (.type X)) (eC : h.get? C = some (excClassObj nm q C N bs bm hdct sn sub ab col dd k0 k1 k2 k3 k5 newId))
    (hi : PySem.W.Looks (model prog w) h (typeLookup (.ref C) "__init__") (some (.ref fI))) (hb : ∀ self, PySem.W.Looks (model prog w) h (bindSpecial (.ref fI) self) (.ref fI, [self])) (hz : rest.length ≤ sizeLine)
    (hq : codeAny (model prog w) A (.call (.ref fI) ⟨.ref (h.objs.size + 1) :: rest, kw⟩) (fun r s' => match r with | .ok (.ret v) => v = .none ∧ Q (.done (.ret (.ref (h.objs.size + 1)))) s' | .ok _ => False | .error e => E e s')
      ⟨(h.push (PySem.W.kdv_tup rest)).push (excO C h.objs.size), g, d, t, os⟩) : wpAny (model prog w) A (Builtin.«type.__call__» ⟨.ref C :: rest, kw⟩) Q E ⟨h, g, d, t, os⟩ := by
  repeat (first | with_reducible refine wpAny_loadPart_at eC ?_ | with_reducible refine wpAny_madeBy_exc eC ?_ | wp_step)
  refine codeAny_call_builtin_code (Code.quiet_builtin _ F.quiet) (kwo_check F hT eC (kwo_new F hT eC ?_ hz))
  show wpAny _ _ _ _ _ _
  have up : ∀ b o, h.get? b = some o → ((h.push (PySem.W.kdv_tup rest)).push (excO C h.objs.size)).get? b = some o := fun b o e => Heap.get?_push_of_some _ (Heap.get?_push_of_some _ e)
  have eC1 := up _ _ eC
  have eN : ((h.push (PySem.W.kdv_tup rest)).push (excO C h.objs.size)).get? (h.objs.size + 1) = some (excO C h.objs.size) := by heap_get
  have c0 : (Value.ref C :: bm).contains (.ref C) = true := by simp
  have i1 := hi.keeps up
  have b1 := (hb (.ref (h.objs.size + 1))).keeps up
  unfold isInstance
  repeat (first | with_reducible refine wpAny_loadPart_at eN ?_ | (with_reducible refine wpAny_isSubtype_exc eC1 ?_; rw [c0]) | wp_step)
  show wpAny _ _ (typeLookup (.ref C) _) _ _ _
  refine i1.at (wpAny_holding (wpAny_bind (b1.at (wpAny_bind (wpAny_call (codeAny_mono hq fun r s' z => ?_))))))
  rcases r with e | (v | _ | _ | _) <;> first | exact z | exact z.elim | skip
  obtain ⟨rfl, z⟩ := z
  first
    | exact wpAny_pure (wpAny_pure z)
    | (wp_walk; exact z)
theorem kwo_chk {Q : Unit → Shared → Prop} (eC : h.get? C = some (excClassObj nm q C N bs bm hdct sn sub ab col dd k0 k1 k2 k3 k5 newId)) (hq : Q () ⟨h, g, d, t, os⟩) : wpAny M A (checkBuiltinCall "type.__call__" ⟨.ref C :: rest, kw⟩) Q E ⟨h, g, d, t, os⟩ := by
  have f3 := tc_sub
  have tC : (⟨h, g, d, t, os⟩ : Shared).TypeIs (.ref C) "type" := ⟨_, eC, rfl⟩
  simp only [checkBuiltinCall, tc_split, tc_kind]
  repeat (any_goals (first | assumption | with_reducible refine wpAny_loadPart_at eC ?_ | with_reducible refine wpAny_onRaise ?_ | with_reducible refine wpAny_map ?_ | wp_step))
theorem kwo_call {fI : Addr} (F : ExcBaseFacts B newId initId bmB) (hT : ∀ X : String, bm.contains (.type X) = bmB.contains (.type X)) (eC : h.get? C = some (excClassObj nm q C N bs bm hdct sn sub ab col dd k0 k1 k2 k3 k5 newId))
    (hi : PySem.W.Looks (model prog w) h (typeLookup (.ref C) "__init__") (some (.ref fI))) (hb : ∀ self, PySem.W.Looks (model prog w) h (bindSpecial (.ref fI) self) (.ref fI, [self])) (hz : rest.length ≤ sizeLine)
    (hq : codeAny (model prog w) (A.under (.builtin "type.__call__" ⟨.ref C :: rest, kw⟩)) (.call (.ref fI) ⟨.ref (h.objs.size + 1) :: rest, kw⟩) (PySem.W.InitBack (h.objs.size + 1) R) ⟨(h.push (PySem.W.kdv_tup rest)).push (excO C h.objs.size), g, d, t, os⟩) :
    codeAny (model prog w) A (.call (.ref C) ⟨rest, kw⟩) R ⟨h, g, d, t, os⟩ := by
  have f1 := tc_lookup
  have f2 := tc_bind (.ref C)
  have tC : (⟨h, g, d, t, os⟩ : Shared).TypeIs (.ref C) "type" := ⟨_, eC, rfl⟩
  refine codeAny_of_tree (?_ : _)
  show wpAny _ _ (callAny (.ref C) _) _ _ _
  repeat (any_goals (first | assumption | with_reducible refine wpAny_loadPart_at eC ?_ | wp_step))
  refine ⟨rfl, (?_ : _)⟩
  refine codeAny_call_builtin_at (Code.quiet_builtin _ (by decide +kernel)) entry_typeCall (kwo_chk eC (kwo_type F hT eC hi hb hz (codeAny_mono hq fun r s' z => ?_)))
  rcases r with e | (v | _ | _ | _) <;> exact z
end
end M2
set_option Elab.async false
set_option linter.all false
set_option maxRecDepth 100000
set_option maxHeartbeats 4000000
namespace M2
open PySem PySem.Spec PyProof.Rows L2
/-! ### an exception class whose making stores two fields -/
def oexB (K : PySem.W.Frag) (C : Addr) : Bool := match K.lookup C with
  | none => false
  | some ob => (match ob with
    | ⟨.type "type", dd, .cls c, ⟨[k0, k1, k2, k3, some (.builtin n), k5]⟩⟩ => n == "ValueError.__new__" && ((match c.mro with
      | .ref D :: bm => D == C && PySem.HandSPX.refsVE bm
      | _ => false) && (c.hasDict && !c.hasDel))
    | _ => false)
theorem oexB_cls {K : PySem.W.Frag} {C : Addr} (h : oexB K C = true) : ∃ nm q N bs bm sn sub ab col dd k0 k1 k2 k3 k5, K.lookup C = some (excClassObj nm q C N bs bm true sn sub ab col dd k0 k1 k2 k3 k5 "ValueError.__new__") ∧ PySem.HandSPX.refsVE bm = true := by
  unfold oexB at h
  split at h
  · cases h
  · rename_i ob ho
    split at h
    · rename_i dd c k0 k1 k2 k3 n k5
      rw [Bool.and_eq_true, Bool.and_eq_true, Bool.and_eq_true] at h
      obtain ⟨hn, hm, hd, hl⟩ := h
      obtain ⟨nm, bs, mro, ns, qn, hdct, sn, sub, ab, col, del⟩ := c
      dsimp only at hm hd hl
      split at hm
      · rename_i D bm
        rw [Bool.and_eq_true] at hm
        obtain ⟨h1, h2⟩ := hm
        obtain rfl := beq_iff_eq.mp h1
        obtain rfl := beq_iff_eq.mp hn
        subst hd
        have hl' : del = false := by simpa using hl
        subst hl'
        exact ⟨nm, qn, ns, bs, bm, sn, sub, ab, col, dd, k0, k1, k2, k3, k5, ho, h2⟩
      · cases hm
    · cases h
/-- what the module says of such a class -/
def kndX (K : PySem.W.Frag) (n : Str) (fs : List Str) : Bool :=
  oexB K (clsA K n) && (decide (PySem.W.findIn K (.ref (clsA K n)) "__setattr__" = some (some (.builtin "object.__setattr__"))) && (decide (PySem.W.typeIn K (.ref (clsA K n)) = some (.type "type")) && (PySem.W.keepIn K (.ref (clsA K n)) && (xfB K (clsA K n) &&
  fs.all fun f => decide (PySem.W.findIn K (.ref (clsA K n)) f = some none)))))
structure KndX (K : PySem.W.Frag) (n : Str) (fs : List Str) : Prop where
  o : OexC K (clsA K n)
  x : XfC K (clsA K n)
  f : ∀ f ∈ fs, PySem.W.findIn K (.ref (clsA K n)) f = some none
theorem kndX_of {K : PySem.W.Frag} {n : Str} {fs : List Str} (h : kndX K n fs = true) : KndX K n fs := by
  simp only [kndX, Bool.and_eq_true, decide_eq_true_eq] at h
  obtain ⟨h1, h2, h3, h4, h5, h6⟩ := h
  have x := xfB_ok h5
  exact ⟨⟨oexB_cls h1, h2, x.exC, h3, h4⟩, x, fun f hf => of_decide_eq_true (List.all_eq_true.mp h6 f hf)⟩
def spI2 (C : Addr) (f1 f2 : Str) : Sp := fun vs H Q _ => ∃ a y1 y2, vs = [.ref a, y1, y2] ∧ H a = some (exo a C none) ∧ ∀ d, H d = none → d ≠ a → Q .non (upd (upd (upd H d (exd d [(f1, y1)])) a (exo a C (some d))) d (exd d [(f2, y2), (f1, y1)]))
theorem init2_reads {K : PySem.W.Frag} {C : Addr} {f1 f2 : Str} {N : List Str} {vs : List V} {H : Hp} {Q : VK} {E : XK} {D : Ends} (T : OexC K C) (h1 : PySem.W.findIn K (.ref C) f1 = some none) (h2 : PySem.W.findIn K (.ref C) f2 = some none) (h : spI2 C f1 f2 vs H Q E) (hD : ∀ σ H', Q .non H' → D.nx σ H') :
    tSeq (tOst K f1 (tVar 0) (tVar 1)) (tSeq (tOst K f2 (tVar 0) (tVar 2)) tNext) D (L2.start N vs) H := by
  obtain ⟨a, y1, y2, rfl, ea, q⟩ := h
  exact ⟨y1, rfl, .ref a, rfl, a, C, rfl, T, h1, .inl ⟨ea, fun d hd hda => ⟨y2, rfl, .ref a, rfl, a, C, rfl, T, h2, .inr ⟨d, [(f1, y1)], upd_same, (by rw [upd_ne hda]; exact upd_same), (show 1 ≤ 900 by omega), hD _ _ (q d hd hda)⟩⟩⟩⟩
section
variable {X : Cx} {k : Nat} {fI C : Addr} {fd : FuncData} {ps : List Str} {sp : Sp} {pins : List (Addr × Obj)} {σ : L2.St} {H : Hp} {s : Shared}
theorem run_mkX {Q : VK} {us ws : List Value} {vs : List V} {kw : List (Str × Value)} (T : OexC X.K C) (iC : PySem.W.findIn X.K (.ref C) "__init__" = some (some (.ref fI))) (tI : PySem.W.typeIn X.K (.ref fI) = some (.type "function")) (F1 : FnOk X.prog X.w X.K X.mg X.base L2.CX0 k fI fd ps sp) (room : Room (k + 1) X.A)
    (I : Inv X pins σ H s) (hz : us.length ≤ sizeLine) (bnd : ∀ (s' : Shared) (e : Addr), X.K.In s'.heap → BindsTo s' fd ⟨.ref e :: us, kw⟩ (ps.zip (.ref e :: ws))) (r : Vals vs ws)
    (want : ∀ a, H a = none → sp (.ref a :: vs) (upd H a (exo a C none)) (fun v H2 => v = .non ∧ Q (.ref a) H2) L2.E0) : wpAny (model X.prog X.w) X.A (call (.ref C) us kw) (EP X pins σ Q) X.xe s := by
  obtain ⟨nm, q, N, bs, bm, sn, sub, ab, col, dd, k0, k1, k2, k3, k5, eC, hbm⟩ := T.cls
  obtain ⟨hp, g, dr, tk, os⟩ := s
  have lt : hp.objs.size ≤ hp.objs.size + 1 := Nat.le_succ _
  have gq := want (hp.objs.size + 1) (I.hok.fresh lt)
  have up : ∀ b o, hp.get? b = some o → ((hp.push (PySem.W.kdv_tup us)).push (PySem.HandSPX.excO C hp.objs.size)).get? b = some o := fun b o e => Heap.get?_push_of_some _ (Heap.get?_push_of_some _ e)
  have eN : ((hp.push (PySem.W.kdv_tup us)).push (PySem.HandSPX.excO C hp.objs.size)).get? (hp.objs.size + 1) = some (PySem.HandSPX.excO C hp.objs.size) := by heap_get
  have J : Inv X pins σ (upd H (hp.objs.size + 1) (exo (hp.objs.size + 1) C none)) ⟨(hp.push (PySem.W.kdv_tup us)).push (PySem.HandSPX.excO C hp.objs.size), g, dr, tk, os⟩ := I.laid (t' := tk) up lt (exo_ok eN)
  refine wpAny_call (kwo_call PySem.F.excBase_ValueError (fun Y => PySem.HandSPX.refsVE_contains Y bm hbm) (I.kIn _ _ eC) (PySem.W.looks_findIn I.kIn iC) (fun self => PySem.W.bind_fn I.kIn self tI) hz
    (codeAny_mono (F1.run _ X.stack _ _ ⟨.ref (hp.objs.size + 1) :: us, kw⟩ (.ref (hp.objs.size + 1) :: ws) _ _ L2.E0 (room.make C us kw) (J.env0.make C us kw) (bnd _ _ J.kIn) (Paired.cons (show L2.RelV (V.ref (hp.objs.size + 1)) (Value.ref (hp.objs.size + 1)) from rfl) r) gq) fun r s' z => ?_))
  match r, z with
  | .error er, z => exact (show False from z).elim
  | .ok (.ret u), z =>
    obtain ⟨v, H', I3, rv, ev, q3⟩ := J.after z
    subst ev
    exact ⟨rv, ⟨V.ref (hp.objs.size + 1), H', I3, rfl, q3⟩⟩
end
section
variable [Tb]
variable {X : Cx} {E : XK} {k : Nat} {x : Str} {e e1 e2 : Expr} {p pos : Pos} {m m1 m2 : MM D} {fI : Addr} {fd : FuncData} {ps : List Str}
/-- the class's making, as the module has it -/
structure Mk2 (P : Program) (w : World) (K : PySem.W.Frag) (mg : Str → Option Value) (base : Heap) (k : Nat) (x f1 f2 : Str) : Prop where
  n : KndX K x [f1, f2]
  g : mg x = some (.ref (clsA K x))
  ex : ∃ (fI : Addr) (fd : FuncData) (p1 p2 p3 : Str), PySem.W.findIn K (.ref (clsA K x)) "__init__" = some (some (.ref fI)) ∧ PySem.W.typeIn K (.ref fI) = some (.type "function") ∧ FnOk P w K mg base L2.CX0 k fI fd [p1, p2, p3] (spI2 (clsA K x) f1 f2) ∧
    Binds K fd [p1, p2, p3] [] ∧ ∀ (s : Shared) (a y1 y2 : Value), BindsTo s fd ⟨[a], [(f2, y2), (f1, y1)]⟩ ([p1, p2, p3].zip [a, y1, y2])
def mMkX (n f1 f2 : Str) (m : MM (List D)) : MM D := bnd m fun ds => match ds with
  | [.int i, .int j] => ret (.exf n [(f2, j), (f1, i)])
  | _ => lft none
def mMkK (n f1 f2 : Str) (m : MM (List D)) : MM D := bnd m fun ds => match ds with
  | [.int j, .int i] => ret (.exf n [(f2, j), (f1, i)])
  | _ => lft none
theorem exf_new {Q : VK} {n f1 f2 : Str} {i j : Int} {st st' : Sto} {φ : List Addr} {H : Hp} {C : Addr} (hC : C = clsA X.K n) (rs : RS X.K H φ st) (q : ∀ φ' H', KX H φ H' φ' → RS X.K H' φ' st → ∀ v, VD X.K H' φ' v (.exf n [(f2, j), (f1, i)]) → Q v H') (a d : Addr) (ha : H a = none) (hd : upd H a (exo a C none) d = none) (hda : d ≠ a) :
    Q (.ref a) (upd (upd (upd (upd H a (exo a C none)) d (exd d [(f1, V.int i)])) a (exo a C (some d))) d (exd d [(f2, V.int j), (f1, V.int i)])) := by
  have hd1 : H d = none := by rwa [upd_ne hda] at hd
  have same : HKp H (upd (upd (upd (upd H a (exo a C none)) d (exd d [(f1, V.int i)])) a (exo a C (some d))) d (exd d [(f2, V.int j), (f1, V.int i)])) := fun b o h _ => by
    have b1 := ne_of_none h ha
    have b2 := ne_of_none h hd1
    rw [upd_ne b2, upd_ne b1, upd_ne b2, upd_ne b1]; exact h
  have tb : LamX.Tabs Tb.T (upd (upd (upd (upd H a (exo a C none)) d (exd d [(f1, V.int i)])) a (exo a C (some d))) d (exd d [(f2, V.int j), (f1, V.int i)])) := rs.tabs.ext fun b o h => by
    have b1 := ne_of_none h ha
    have b2 := ne_of_none h hd1
    rw [upd_ne b2, upd_ne b1, upd_ne b2, upd_ne b1]; exact h
  subst hC
  exact q _ _ (same.kx φ) (rs.kp same tb) _ (.exf (dd := d) (by rw [upd_ne (Ne.symm hda)]; exact upd_same) upd_same)
theorem de_mkX {f1 f2 : Str} {ms : MM (List D)} (M : Mk2 X.prog X.w X.K X.mg X.base k x f1 f2) (room : Room (k + 1) X.A) (hg : Gl X x) (ha : DA X E [e1, e2] ms) (hdb : (x == ("__debug__" : Str)) = false) (he : starEach [e1, e2] X.env = (false, eval e1 X.env) :: starEach [e2] X.env) (hpl : (backTo pos (starEach [e2] X.env)).any (·.1) = false) :
    DE X E (.Call (.Name x p) [e1, e2] [] pos) (mMkX x f1 f2 ms) := by
  obtain ⟨fI, fd, p1, p2, p3, iC, tI, F1, hb, _⟩ := M.ex
  refine ⟨fun pins s σ H Q I ⟨en, st, φ, g⟩ => wpAny_Call_Name_kw (ld_glob I hg M.g (PySem.W.callWith_K (h₀ := X.base) I.ok.mod.kin M.n.o.kC ?_ he hpl) hdb)⟩
  refine thn (ha.run pos pins s σ H (fun vs H1 => ∃ ds i j st1 φ1, VDs X.K H1 φ1 vs ds ∧ ds = [.int i, .int j] ∧ RS X.K H1 φ1 st1 ∧ ∀ φ' H', KX H1 φ1 H' φ' → RS X.K H' φ' st1 → ∀ v, VD X.K H' φ' v (.exf x [(f2, j), (f1, i)]) → Q v H') I ⟨en, st, φ, g.bind.imp fun st1 ds φ1 H1 _ rs1 ⟨k1, r1, g1⟩ vs hv => ?_⟩) fun us s1 ⟨vs, H1, I1, r1, hq⟩ => ⟨I1.kIn, ?_⟩
  · obtain ⟨re, rs, r, st', em, q⟩ := g1
    split at em
    · rename_i i j _
      cases em
      exact ⟨_, i, j, st1, φ1, hv, rfl, rs, q⟩
    · cases em
  · obtain ⟨ds, i, j, st1, φ1, hv, rfl, rs, q⟩ := hq
    obtain ⟨v1, v2, rfl, h1, h2⟩ := hv.two
    cases h1
    cases h2
    obtain ⟨u1, u2, rfl, ru1, ru2⟩ := r1.two
    refine run_mkX M.n.o iC tI F1 room I1 (by show 2 ≤ sizeLine; rw [sizeLine_eq]; omega) (fun s' a hk => ?_) r1 fun a hna => ⟨a, .int i, .int j, rfl, upd_same, fun d hd hda => ⟨rfl, exf_new (st' := st1) rfl rs q a d hna hd hda⟩⟩
    have hz := hb s' [.ref a, u1, u2] hk rfl
    rwa [List.append_nil] at hz
end
end M2
set_option Elab.async false
set_option linter.all false
set_option maxRecDepth 100000
set_option maxHeartbeats 4000000
namespace M2
open PySem PySem.Spec PyProof.Rows L2
/-- a class's own statements -/
def clsS : Stmt → List Stmt
  | .ClassDef _ _ _ b _ _ _ _ _ _ _ => b
  | _ => []
variable [Tb]
section
variable {X : Cx} {E : XK} {k : Nat} {x n : Str} {e e1 e2 : Expr} {p pos kpos : Pos} {m m1 m2 : MM D} {nm : Option Str} {kws : List Keyword}
/-! ### keywords -/
abbrev DK (X : Cx) (E : XK) (kws : List Keyword) (m : MM (List D)) : Prop := PK X kws (tAM X.K E m)
theorem pk_imp {t t' : TA} (h : PK X kws t) (f : ∀ σ H Q, t' σ H Q → t σ H Q) : PK X kws t' := ⟨fun p pins s σ H Q I w => h.run p pins s σ H Q I (f σ H Q w)⟩
theorem dk_nil : DK X E [] (mArgs []) := pk_imp pk_nil fun σ H Q ⟨en, st, φ, g⟩ => g.ret [] .nil
theorem dk_cons {ms : List (MM D)} (ha : DE X E e m) (hs : DK X E kws (mArgs ms)) : DK X E (⟨nm, e, kpos⟩ :: kws) (mArgs (m :: ms)) :=
  pk_imp (pk_cons ha hs) fun σ H Q ⟨en, st, φ, g⟩ => ⟨en, st, φ, g.bind.imp fun st1 d1 φ1 H1 _ _ ⟨k1, r1, g1⟩ y vy => ⟨en, st1, φ1, g1.bind.imp fun st2 d2 φ2 H2 _ _ ⟨k2, r2, g2⟩ vs vds => g2.ret _ (.cons (vy.mono k2) vds)⟩⟩
theorem de_mkK {f1 f2 : Str} {ms : MM (List D)} {q1 q2 : Pos} (M : Mk2 X.prog X.w X.K X.mg X.base k x f1 f2) (room : Room (k + 1) X.A) (hg : Gl X x) (ha : DK X E [⟨some f2, e1, q1⟩, ⟨some f1, e2, q2⟩] ms) (hdb : (x == ("__debug__" : Str)) = false)
    (hall : (backToKw pos (keywordEach [⟨some f2, e1, q1⟩, ⟨some f1, e2, q2⟩] X.env)).all (·.1.isSome) = true := by rfl) (hks : (backToKw pos (keywordEach [⟨some f2, e1, q1⟩, ⟨some f1, e2, q2⟩] X.env)).filterMap (·.1) = [f2, f1] := by rfl)
    (hpl : ((backTo pos (starEach [] X.env)).any (·.1) || (backToKw pos (keywordEach [⟨some f2, e1, q1⟩, ⟨some f1, e2, q2⟩] X.env)).any (·.1.isNone)) = false := by rfl) :
    DE X E (.Call (.Name x p) [] [⟨some f2, e1, q1⟩, ⟨some f1, e2, q2⟩] pos) (mMkK x f1 f2 ms) := by
  obtain ⟨fI, fd, p1, p2, p3, iC, tI, F1, _, hb⟩ := M.ex
  refine ⟨fun pins s σ H Q I ⟨en, st, φ, g⟩ => wpAny_Call_Name_kw (ld_glob I hg M.g (PySem.W.callWith_KW0 (h₀ := X.base) I.ok.mod.kin M.n.o.kC hall ?_ hpl) hdb)⟩
  refine thn (ha.run pos pins s σ H (fun vs H1 => ∃ ds i j st1 φ1, VDs X.K H1 φ1 vs ds ∧ ds = [.int j, .int i] ∧ RS X.K H1 φ1 st1 ∧ ∀ φ' H', KX H1 φ1 H' φ' → RS X.K H' φ' st1 → ∀ v, VD X.K H' φ' v (.exf x [(f2, j), (f1, i)]) → Q v H') I ⟨en, st, φ, g.bind.imp fun st1 ds φ1 H1 _ rs1 ⟨k1, r1, g1⟩ vs hv => ?_⟩) fun us s1 ⟨vs, H1, I1, r1, hq⟩ => ⟨I1.kIn, ?_⟩
  · obtain ⟨re, rs, r, st', em, q⟩ := g1
    split at em
    · rename_i j i _
      cases em
      exact ⟨_, i, j, st1, φ1, hv, rfl, rs, q⟩
    · cases em
  · obtain ⟨ds, i, j, st1, φ1, hv, rfl, rs, q⟩ := hq
    obtain ⟨v1, v2, rfl, h1, h2⟩ := hv.two
    cases h1
    cases h2
    obtain ⟨u1, u2, rfl, ru1, ru2⟩ := r1.two
    rw [hks]
    exact run_mkX (us := []) (ws := [u2, u1]) (vs := [.int i, .int j]) M.n.o iC tI F1 room I1 (Nat.zero_le _) (fun s' a hk => hb s' (.ref a) u2 u1) (.cons ru2 (.cons ru1 .nil)) fun a hna => ⟨a, .int i, .int j, rfl, upd_same, fun d hd hda => ⟨rfl, exf_new (st' := st1) rfl rs q a d hna hd hda⟩⟩
/-! ### a field of such an exception -/
def mXf (cn f : Str) (m : MM D) : MM D := bnd m fun d => match d with
  | .exf n fs => if n = cn then lft ((fs.lookup f).map D.int) else lft none
  | _ => lft none
theorem lookup_mapI {f : Str} : ∀ {fs : List (Str × Int)}, (fs.map fun p => (p.1, V.int p.2)).lookup f = (fs.lookup f).map V.int
  | [] => rfl
  | (g, i) :: r => by
    rw [List.map_cons, List.lookup_cons, List.lookup_cons]
    cases f == g
    · exact lookup_mapI
    · rfl
theorem de_xf {f : Str} {fs0 : List Str} (M : KndX X.K n fs0) (hf : f ∈ fs0) (he : DE X E e m) (hb : attributeBase e f X.env (eval e X.env) = eval e X.env) : DE X E (.Attribute e f pos) (mXf n f m) := by
  refine ⟨fun pins s σ H Q I ⟨en, st, φ, g⟩ => attr_of hb (thn (he.run pins s σ H (fun v H1 => ∃ fs i φ1, VD X.K H1 φ1 v (.exf n fs) ∧ fs.lookup f = some i ∧ Q (.int i) H1) I ⟨en, st, φ, g.bind.imp fun st1 d φ1 H1 _ rs1 ⟨k1, r1, g1⟩ v hv => ?_⟩) fun u s1 ⟨v, H1, I1, rv, fs, i, φ1, hv, hl, q⟩ => ?_)⟩
  · split at g1
    · rename_i n' fs _
      split at g1
      · rename_i en'
        subst en'
        obtain ⟨z, hz, q⟩ := g1.lft
        cases hl : fs.lookup f with
        | none => rw [hl] at hz; cases hz
        | some i =>
          rw [hl] at hz
          cases hz
          exact ⟨fs, i, φ1, hv, hl, q _ .int⟩
      · obtain ⟨z, hz, q⟩ := g1.lft
        cases hz
    · obtain ⟨z, hz, q⟩ := g1.lft
      cases hz
  · cases hv with
    | @exf a dd _ _ h1 h2 =>
      obtain rfl : u = Value.ref a := rv
      obtain ⟨t1, ho⟩ := exo_at I1.hok h1
      obtain ⟨mA, hns, rel⟩ := exd_at I1.hok h2
      obtain ⟨od, hod, hlk⟩ := lookIn_ns hns
      obtain ⟨w, hw, rw'⟩ := RelO.some_of (v := V.int i) (o := mA f) (by have z := rel f; rw [lookup_mapI, hl] at z; exact z)
      have J : PySem.W.InstAt s1.heap a { cls := .ref (clsA X.K n), dict := some dd, data := .fields #[.ref t1, .none, .none, .none, .bool false, .none] } (clsA X.K n) (some od) := ⟨ho, rfl, rfl, hod⟩
      exact HandSPX.exc_get I1.kIn J M.x.ga M.x.gg M.x.exC (PySem.W.findObj_own M.x.hdC (M.f f hf) rfl (by rw [hlk, hw])) (handed_of rw') ⟨.int i, H1, I1.tok _, rw', q⟩
end
end M2
set_option Elab.async false
set_option linter.all false
set_option maxRecDepth 100000
set_option maxHeartbeats 4000000
namespace M2
open PySem PySem.Spec PyProof.Rows L2
open Classical
variable [Tb]
/-! ### l.insert(i, y), l.pop(i) -/
def fIns (l : Nat) (vs : List D) : Sto → Option (D × Sto) := fun st => match vs with
  | [.int i, y] => (st[l]?).bind fun xs => if xs.length < 100000 ∧ 0 ≤ i ∧ i < 2 ^ 62 then some (.non, st.set l (xs.take i.toNat ++ [y] ++ xs.drop i.toNat)) else none
  | _ => none
theorem fIns_some {l : Nat} {vs : List D} {st st' : Sto} {z : D} (h : fIns l vs st = some (z, st')) : ∃ i y xs, vs = [.int i, y] ∧ st[l]? = some xs ∧ xs.length < 100000 ∧ 0 ≤ i ∧ i < 2 ^ 62 ∧ z = .non ∧ st' = st.set l (xs.take i.toNat ++ [y] ++ xs.drop i.toNat) := by
  unfold fIns at h
  split at h
  · rename_i i y
    cases e : st[l]? with
    | none => rw [e] at h; cases h
    | some xs =>
      rw [e, Option.bind_some] at h
      split at h
      · rename_i c
        cases h
        exact ⟨i, y, xs, rfl, rfl, c.1, c.2.1, c.2.2, rfl, rfl⟩
      · cases h
  · cases h
def fPopA (l : Nat) (vs : List D) : Sto → Option (D × Sto) := fun st => match vs with
  | [.int i] => (st[l]?).bind fun xs => if -(2 ^ 62) ≤ i ∧ i < 2 ^ 62 then (ixN xs.length i).bind fun k => (xs[k]?).map fun y => (y, st.set l (xs.eraseIdx k)) else none
  | _ => none
theorem fPopA_some {l : Nat} {vs : List D} {st st' : Sto} {z : D} (h : fPopA l vs st = some (z, st')) : ∃ i k xs, vs = [.int i] ∧ st[l]? = some xs ∧ -(2 ^ 62) ≤ i ∧ i < 2 ^ 62 ∧ ixN xs.length i = some k ∧ xs[k]? = some z ∧ st' = st.set l (xs.eraseIdx k) := by
  unfold fPopA at h
  split at h
  · rename_i i
    cases e : st[l]? with
    | none => rw [e] at h; cases h
    | some xs =>
      rw [e, Option.bind_some] at h
      split at h
      · rename_i c
        cases e2 : ixN xs.length i with
        | none => rw [e2] at h; cases h
        | some k =>
          rw [e2, Option.bind_some] at h
          cases e3 : xs[k]? with
          | none => rw [e3] at h; cases h
          | some y => rw [e3] at h; cases h; exact ⟨i, k, xs, rfl, rfl, c.1, c.2, e2, e3, rfl⟩
      · cases h
  · cases h
theorem VDs.eraseIdx {K : PySem.W.Frag} {H : Hp} {φ : List Addr} : ∀ {vs : List V} {ds : List D} (k : Nat), VDs K H φ vs ds → VDs K H φ (vs.eraseIdx k) (ds.eraseIdx k)
  | _, _, _, .nil => .nil
  | _, _, 0, .cons _ t => t
  | _, _, k + 1, .cons a t => .cons a (VDs.eraseIdx k t)
section
variable {X : Cx} {E : XK} {o e e2 : Expr} {mo mv mw : MM D} {apos cpos : Pos}
/-- l.insert(i, y) -/
def mIns (mo mv mw : MM D) : MM D := bnd mo fun d => bnd (lft (locD d)) fun l => bnd (mArgs [mv, mw]) fun vs => stm (fIns l vs)
theorem de_ins (ho : DE X E o mo) (ha : DA X E [e, e2] (mArgs [mv, mw])) {r : V → List V → Hp → VK → Prop} (hr : r = fun x vs H Q => ∃ (l : Addr) (xs : List V) (i : Int) (y : V), x = .ref l ∧ vs = [.int i, y] ∧ H l = some (.lst xs) ∧ xs.length < sizeLine ∧ 0 ≤ i ∧ i < 2 ^ 63 ∧
    Q .non (upd H l (.lst (xs.take i.toNat ++ [y] ++ xs.drop i.toNat)))) (hpe : ∀ {to : TE} {t : TA}, PE X o to → PA X [e, e2] t → PE X (.Call (.Attribute o "insert" apos) [e, e2] [] cpos) (tBM X.K "list" r to t)) :
    DE X E (.Call (.Attribute o "insert" apos) [e, e2] [] cpos) (mIns mo mv mw) :=
  pe_imp (hpe ho ha) fun σ H Q ⟨en, st, φ, g⟩ => ⟨en, st, φ, g.bind.imp fun st1 dl φ1 H1 _ _ ⟨k1, r1, g1⟩ x hx => by
    obtain ⟨l, el, _, _, g2⟩ := g1.bind.lft
    rw [locD_some el] at hx
    obtain ⟨p, rfl, hp⟩ := hx.mutI
    have hl : l < st1.length := by rw [← r1.len]; exact (List.getElem?_eq_some_iff.mp hp.at').1
    obtain ⟨ws, gw, _⟩ := r1.get l p st1[l] hp (List.getElem?_eq_getElem hl)
    refine ⟨.inl ⟨rfl, ws, .of gw⟩, en, st1, φ1, g2.bind.imp fun st3 vs φ3 H3 _ _ ⟨k3, r3, g5⟩ us hu => ?_⟩
    obtain ⟨z, st4, e4, q4⟩ := g5.stm
    obtain ⟨i, y, xs, rfl, e5, hl, h0, h1, rfl, rfl⟩ := fIns_some e4
    obtain ⟨u, v, rfl, hu2, hv2⟩ := hu.two
    cases hu2
    have hp3 := k3.muAt hp
    obtain ⟨ws3, gw3, vd3⟩ := r3.get l p _ hp3 e5
    obtain ⟨kx, rr⟩ := put_lst r3 hp3 (((vd3.take i.toNat).app (.cons hv2 .nil)).app (vd3.drop i.toNat))
    subst hr
    exact ⟨p, ws3, i, v, rfl, rfl, gw3, sz_of (by rw [vd3.length]; exact hl), h0, by omega, q4 φ3 _ kx rr _ .non⟩⟩
theorem de_popA (ho : DE X E o mo) (ha : DA X E [e] (mArgs [mv])) (hpe : ∀ {to : TE} {t : TA}, PE X o to → PA X [e] t → PE X (.Call (.Attribute o "pop" apos) [e] [] cpos) (tBM X.K "list" rPopAt to t)) :
    DE X E (.Call (.Attribute o "pop" apos) [e] [] cpos) (mMt fPopA mo mv) :=
  pe_imp (hpe ho ha) fun σ H Q ⟨en, st, φ, g⟩ => ⟨en, st, φ, g.bind.imp fun st1 dl φ1 H1 _ _ ⟨k1, r1, g1⟩ x hx => by
    obtain ⟨l, el, _, _, g2⟩ := g1.bind.lft
    rw [locD_some el] at hx
    obtain ⟨p, rfl, hp⟩ := hx.mutI
    have hl : l < st1.length := by rw [← r1.len]; exact (List.getElem?_eq_some_iff.mp hp.at').1
    obtain ⟨ws, gw, _⟩ := r1.get l p st1[l] hp (List.getElem?_eq_getElem hl)
    refine ⟨.inl ⟨rfl, ws, .of gw⟩, en, st1, φ1, g2.bind.imp fun st3 vs φ3 H3 _ _ ⟨k3, r3, g5⟩ us hu => ?_⟩
    obtain ⟨z, st4, e4, q4⟩ := g5.stm
    obtain ⟨i, k, xs, rfl, e5, h0, h1, hk, hz, rfl⟩ := fPopA_some e4
    obtain ⟨u, rfl, hu2⟩ := hu.one
    cases hu2
    have hp3 := k3.muAt hp
    obtain ⟨ws3, gw3, vd3⟩ := r3.get l p _ hp3 e5
    obtain ⟨y, ey, hy⟩ := vd3.get hz
    obtain ⟨kx, rr⟩ := put_lst r3 hp3 (vd3.eraseIdx k)
    exact ⟨p, ws3, i, k, y, rfl, rfl, gw3, by omega, by omega, by rw [vd3.length]; exact (ixN_seq hk).1, ey, q4 φ3 _ kx rr _ (hy.mono kx)⟩⟩
end
/-! ### x += e, ints -/
def augK (i : Nat) (f : Int → Int → Int) (a : Int) (d : D) : MS := fun en st => match d with
  | .int b => (setN i (.int (f a b)) en).map fun en' => (.nx, en', st)
  | _ => none
def sAug (i : Nat) (f : Int → Int → Int) (me : MM D) : MS := fun en st => match en[i]? with
  | some (some (.int a)) => sEx me (augK i f a) en st
  | _ => none
section
variable {X : Cx} {E : XK} {e : Expr} {me : MM D} {pos pos' : Pos}
theorem ds_aug {i : Nat} {x : Str} {op : Operator} {f : Int → Int → Int} (hN : X.N.Nodup) (ho : PIp X op (ipI f)) (he : DE X E e me) (hi : X.N[i]? = some x) (hx : Loc X.env.scope x) (hf : X.fn x = true ∨ X.env.scope.names.lookup x = some .local) :
    DS1 X E (.AugAssign (.Name x pos') op e pos) (sAug i f me) :=
  ps_imp (ps_aug hN hi hx he ho hf) fun D σ H ⟨en, st, φ, re, rs, c, en', st', e, q⟩ => by
    unfold sAug at e
    split at e
    · rename_i a ha
      obtain ⟨v, e1, hv⟩ := re.get i _ ha
      cases hv
      refine ⟨_, e1, en, st, φ, (Sat.ex' (m := me) (k := augK i f a) ⟨re, rs, c, en', st', e, q⟩).imp fun st1 d φ1 H1 _ _ ⟨k1, r1, re1, rs1, c1, en1, st2, e2, q2⟩ y hy => ?_⟩
      unfold augK at e2
      cases d with
      | int b =>
        cases hy
        refine ⟨a, b, rfl, rfl, ?_⟩
        unfold setN at e2
        simp only at e2
        split at e2
        · cases e2
          exact q2 φ1 H1 .refl rs1 _ (re1.set .int)
        · cases e2
      | _ => cases e2
    · cases e
end
/-! ### for .. else, break -/
inductive CtlB where
  | c (k : Ctl) | bk
abbrev MB := En → Sto → Option (CtlB × En × Sto)
def PCB (K : PySem.W.Frag) (E : XK) (D : Ends) (c : CtlB) (en : En) (φ : List Addr) (H : Hp) : Prop := match c with
  | .c k => PC K E D k en φ H
  | .bk => ∀ σ, RE K H φ σ en → D.bk σ H
def SatB (K : PySem.W.Frag) (E : XK) (m : MB) (σ : L2.St) (en : En) (st : Sto) (φ : List Addr) (H : Hp) (D : Ends) : Prop :=
  RE K H φ σ en ∧ RS K H φ st ∧ ∃ c en' st', m en st = some (c, en', st') ∧ ∀ φ' H', KX H φ H' φ' → RS K H' φ' st' → PCB K E D c en' φ' H'
def tSB (K : PySem.W.Frag) (E : XK) (m : MB) : TS := fun D σ H => ∃ en st φ, SatB K E m σ en st φ H D
abbrev DB1 (X : Cx) (E : XK) (s : Stmt) (m : MB) : Prop := PS X s (tSB X.K E m)
abbrev DBs (X : Cx) (E : XK) (s : List Stmt) (m : MB) : Prop := PSs X s (tSB X.K E m)
def bOf (m : MS) : MB := fun en st => (m en st).map fun p => (.c p.1, p.2)
def bNx : MB := fun en st => some (.c .nx, en, st)
def bBrk : MB := fun en st => some (.bk, en, st)
def bSeq (a b : MB) : MB := fun en st => match a en st with
  | some (.c .nx, en1, st1) => b en1 st1
  | o => o
def bIf (c : MM Bool) (a b : MB) : MB := fun en st => match c en st with
  | none => none
  | some (.error c, st1) => some (.c (.er c), en, st1)
  | some (.ok k, st1) => if k = true then a en st1 else b en st1
noncomputable def bLoop (it : IT) (set : SetE) (body : MB) (els : MS) : List D → MS
  | [] => fun en st => if gOk it st then els en st else none
  | d :: r => fun en st => if gOk it st then
      match set d en with
      | none => none
      | some en1 => match body en1 st with
        | some (.c .nx, en2, st2) => bLoop it set body els r en2 st2
        | some (.c k, en2, st2) => some (k, en2, st2)
        | some (.bk, en2, st2) => some (.nx, en2, st2)
        | none => none
    else none
noncomputable def sForE (mi : MM IT) (set : SetE) (body : MB) (els : MS) : MS := sEx mi fun it => bLoop it set body els it.items
section
variable {X : Cx} {E : XK} {pos : Pos} {tg iter : Expr} {s : Stmt} {ss : List Stmt} {m m' : MB} {me : MS} {mt : MM Bool} {mi : MM IT} {f : SetE} {is : List Nat}
theorem db_of {n : MS} (h : DS1 X E s n) : DB1 X E s (bOf n) := ps_imp h fun D σ H ⟨en, st, φ, re, rs, c, en', st', e, q⟩ => by
  unfold bOf at e
  cases hn : n en st with
  | none => rw [hn] at e; cases e
  | some p =>
    obtain ⟨c0, en0, st0⟩ := p
    rw [hn] at e
    cases e
    exact ⟨en, st, φ, re, rs, c0, _, _, hn, q⟩
theorem dbs_nil : DBs X E [] bNx := pss_imp pss_nil fun D σ H ⟨en, st, φ, re, rs, c, en', st', e, q⟩ => by
  cases e
  exact q φ H .refl rs σ re
theorem dbs_cons (h1 : DB1 X E s m) (h2 : DBs X E ss m') : DBs X E (s :: ss) (bSeq m m') :=
  pss_imp (pss_cons h1 h2) fun D σ H ⟨en, st, φ, re, rs, c, en', st', e, q⟩ => by
    unfold bSeq at e
    split at e
    · rename_i en1 st1 h
      refine ⟨en, st, φ, re, rs, _, _, _, h, fun φ1 H1 kx rs1 σ1 re1 => ?_⟩
      exact ⟨en1, st1, φ1, re1, rs1, c, en', st', e, fun φ' H' kx' rs' => q φ' H' (kx.trans kx') rs'⟩
    · rename_i o h
      refine ⟨en, st, φ, re, rs, c, en', st', e, fun φ' H' kx rs' => ?_⟩
      have z := q φ' H' kx rs'
      cases c with
      | bk => exact z
      | c k =>
        cases k with
        | nx => exact (h _ _ e).elim
        | rt d => exact z
        | er c => exact z
theorem db_brk : DB1 X E (.Break pos) bBrk := ps_imp ps_break fun D σ H ⟨en, st, φ, re, rs, c, en', st', e, q⟩ => by
  cases e
  exact q φ H .refl rs σ re
theorem db_if {c : Expr} {a b : List Stmt} (hc : DT X E c mt) (ha : DBs X E a m) (hb : DBs X E b m') : DB1 X E (.If c a b pos) (bIf mt m m') :=
  ps_imp (ps_if hc ha hb) fun D σ H ⟨en, st, φ, re, rs, c, en', st', e, q⟩ => by
    unfold bIf at e
    split at e
    · cases e
    · rename_i c1 st1 hm
      cases e
      exact ⟨en, st, φ, re, rs, _, _, hm, fun φ' H' kx rs' => q φ' H' kx rs'⟩
    · rename_i k st1 hm
      refine ⟨en, st, φ, re, rs, _, _, hm, fun φ1 H1 kx rs1 => ?_⟩
      cases k with
      | true => exact ⟨en, st1, φ1, re.mono kx, rs1, c, en', st', e, fun φ' H' kx' rs' => q φ' H' (kx.trans kx') rs'⟩
      | false => exact ⟨en, st1, φ1, re.mono kx, rs1, c, en', st', e, fun φ' H' kx' rs' => q φ' H' (kx.trans kx') rs'⟩
theorem ds_forE {body orelse : List Stmt} (hp : PassesOwn (model X.prog X.w) X.A X.env X.xe) (hc : X.calm = true) (hi : DI X E tg iter mi) (hg : DG X tg is f) (hb : DBs X E body m) (ho : DSs X E orelse me) (hs : ∀ x, foldedSetIterable iter X.env x = pure x) :
    DS1 X E (.For tg iter body orelse pos) (sForE mi f m me) :=
  ps_imp (ps_forE hp hc hi hg hb ho hs) fun D σ H ⟨en, st, φ, g⟩ => ⟨en, st, φ, g.ex'.imp fun st1 it φ1 H1 _ _ ⟨k1, r1, re, rs, c, en', st', hl, q⟩ J hJ => by
    refine ⟨fun i m0 σ H2 => m0 = it.items.length - i ∧ i ≤ it.items.length ∧ ∃ en2 st2 φ2, RE X.K H2 φ2 σ en2 ∧ RS X.K H2 φ2 st2 ∧ KX H1 φ1 H2 φ2 ∧ bLoop it f m me (it.items.drop i) en2 st2 = some (c, en', st'), ⟨_, rfl, Nat.zero_le _, en, st1, φ1, re, rs, .refl, hl⟩, ?_⟩
    rintro i m0 σ2 H2 ⟨rfl, hi, en2, st2, φ2, re2, rs2, kx2, hl⟩
    by_cases hlt : i < it.items.length
    · rw [List.drop_eq_getElem_cons hlt] at hl
      unfold bLoop at hl
      split at hl
      · rename_i hg
        obtain ⟨j1, j2, j3⟩ := hJ φ2 H2 st2 kx2 rs2 hg
        refine .inr ⟨j1 i hlt, fun σ H3 => (i + 1) ≤ it.items.length ∧ ∃ en2 st2 φ2, RE X.K H3 φ2 σ en2 ∧ RS X.K H3 φ2 st2 ∧ KX H1 φ1 H3 φ2 ∧ bLoop it f m me (it.items.drop (i + 1)) en2 st2 = some (c, en', st'), fun σ' H' ⟨p1, p⟩ => ⟨_, by omega, rfl, p1, p⟩, fun x H3 hy => ?_⟩
        obtain ⟨d, e1, kx3, rs3, vx⟩ := j3 i x H3 hlt hy
        rw [List.getElem?_eq_getElem hlt] at e1
        cases e1
        cases hset : f it.items[i] en2 with
        | none => simp only [hset] at hl; cases hl
        | some en3 =>
          simp only [hset] at hl
          refine ⟨en2, φ2, it.items[i], en3, re2.mono kx3, vx, hset, fun σ3 re3 _ => ?_⟩
          cases hb : m en3 st2 with
          | none => simp only [hb] at hl; cases hl
          | some p =>
            obtain ⟨c2, en4, st4⟩ := p
            refine ⟨en3, st2, φ2, re3, rs3, c2, en4, st4, hb, fun φ5 H5 kx5 rs5 => ?_⟩
            have kxa := (kx2.trans kx3).trans kx5
            cases c2 with
            | bk =>
              simp only [hb] at hl
              cases hl
              exact fun σ5 re5 => q φ5 H5 kxa rs5 σ5 re5
            | c k =>
              cases k with
              | nx =>
                simp only [hb] at hl
                intro σ5 re5
                exact ⟨hlt, en4, st4, φ5, re5, rs5, kxa, hl⟩
              | rt d =>
                simp only [hb] at hl
                cases hl
                exact q φ5 H5 kxa rs5
              | er d =>
                simp only [hb] at hl
                cases hl
                exact q φ5 H5 kxa rs5
      · cases hl
    · have e : i = it.items.length := by omega
      subst e
      rw [List.drop_length] at hl
      unfold bLoop at hl
      split at hl
      · rename_i hg
        obtain ⟨j1, j2, j3⟩ := hJ φ2 H2 st2 kx2 rs2 hg
        exact .inl ⟨j2, en2, st2, φ2, re2, rs2, c, en', st', hl, fun φ' H' kx rs' => q φ' H' (kx2.trans kx) rs'⟩
      · cases hl⟩
end
/-! ### enumerate of a list -/
def mEnumL (m : MM D) : MM IT := bnd m fun d => asg fun _ st => match d with
  | .mu l => (st[l]?).map fun ds => ⟨numbered 0 ds, none, [(l, ds)]⟩
  | _ => none
theorem itr_enumL {K : PySem.W.Frag} {l : Nat} {a : Addr} {ds : List D} {φ0 : List Addr} {H0 : Hp} (h : MuAt H0 φ0 l a) : ItR K ⟨numbered 0 ds, none, [(l, ds)]⟩ (Ite K a) φ0 H0 := fun φ H st kx rs hg => by
  obtain ⟨vs, g1, r'⟩ := rs.get l a ds (kx.muAt h) (hg.2 (l, ds) (List.mem_singleton.mpr rfl))
  have h' : SqL K H a vs := .of g1
  have hl := r'.length
  have nl := numbered_len 0 ds
  refine ⟨fun i hi => ?_, ⟨vs, h', by show vs.length ≤ (numbered 0 ds).length; omega⟩, fun i x H' hi hy => ?_⟩
  · have hi' : i < (numbered 0 ds).length := hi
    exact ⟨vs, vs[i]'(by omega), h', by simp⟩
  · have hi' : i < (numbered 0 ds).length := hi
    obtain ⟨T, v, rfl, hT, rfl, e2⟩ := hy
    have e3 := e2 vs h'
    have hd : i < ds.length := by omega
    obtain ⟨v', g1, g2⟩ := r'.get (List.getElem?_eq_getElem hd)
    rw [e3] at g1; cases g1
    obtain ⟨kx2, rs2⟩ := lay_tup (xs := [.int (i : Nat), v]) rs hT
    refine ⟨.tup [.int (i : Int), ds[i]], ?_, kx2, rs2, .tup (.of upd_same) (.cons .int (.cons (g2.mono kx2) .nil))⟩
    show (numbered 0 ds)[i]? = _
    rw [numbered_get, List.getElem?_eq_getElem hd, Nat.zero_add]; rfl
theorem di_enumL {X : Cx} {E : XK} {e : Expr} {me : MM D} {p pos tpos : Pos} {elts : List Expr} {kk : Nat} (hg : Gl X "enumerate") (hm : X.mg "enumerate" = none) (ha : DA X E [e] (mArgs [me])) (hs : starEach [e] X.env = [(false, eval e X.env)]) :
    DI X E (.Tuple elts kk tpos) (.Call (.Name "enumerate" p) [e] [] pos) (mEnumL me) :=
  pi_imp (pi_enum hg hm ha hs) fun σ H R ⟨en, st, φ, g⟩ => by
    refine ⟨en, st, φ, ?_⟩
    obtain ⟨re, rs, r, st', em, q⟩ := g.bind
    refine ⟨re, rs, r.map (fun d => [d]), st', ?_, fun φ' H' kx rs' => ?_⟩
    · show bnd me (fun d => bnd (ret []) fun ds => ret (d :: ds)) en st = _
      unfold bnd
      rw [em]
      cases r <;> rfl
    · have z := q φ' H' kx rs'
      cases r with
      | error c => exact z
      | ok d =>
        intro vs hv
        obtain ⟨v, rfl, h⟩ := hv.one
        obtain ⟨_, _, g1⟩ := z
        obtain ⟨it, e1, q1⟩ := g1.asg
        cases d with
        | mu l =>
          cases e2 : st'[l]? with
          | none => simp only [e2] at e1; cases e1
          | some ds =>
            simp only [e2] at e1
            cases e1
            obtain ⟨a, rfl, ha⟩ := h.mutI
            obtain ⟨ws, g2, _⟩ := rs'.get l a ds ha e2
            exact ⟨a, ws, rfl, .of g2, q1 _ (itr_enumL ha)⟩
        | _ => cases e1
/-! ### instances of the package's classes -/
def koB (K : PySem.W.Frag) (n : Str) (fs : List Str) : Bool :=
  PySem.W.plainGet K (clsA K n) Str.empty && (PySem.W.hasDictIn K (clsA K n) && (PySem.W.plainOver K (clsA K n) && (decide (PySem.W.findIn K (.ref (clsA K n)) "__setattr__" = some (some (.builtin "object.__setattr__"))) &&
  fs.all fun f => decide (PySem.W.findIn K (.ref (clsA K n)) f = some none))))
structure KO (K : PySem.W.Frag) (n : Str) (fs : List Str) : Prop where
  c : Cls K (clsA K n)
  f : ∀ f ∈ fs, NoAttr K (clsA K n) f
theorem ko_of {K : PySem.W.Frag} {n : Str} {fs : List Str} (h : koB K n fs = true) : KO K n fs := by
  simp only [koB, Bool.and_eq_true, decide_eq_true_eq] at h
  obtain ⟨h1, h2, h3, h4, h6⟩ := h
  exact ⟨⟨h1, h2, h3, h4⟩, fun f hf => by have := List.all_eq_true.mp h6 f hf; show _ = _; simpa using this⟩
def lookA (f : Str) : List D → Option D
  | .tup [.str g, v] :: r => if f = g then some v else lookA f r
  | _ => none
def putE (f : Str) (v : D) : List (Str × D) → List (Str × D)
  | [] => [(f, v)]
  | (g, x) :: r => if g = f then (g, v) :: r else (g, x) :: putE f v r
def putA (f : Str) (v : D) : List D → List D
  | .tup [.str g, x] :: r => if g = f then .tup [.str g, v] :: r else .tup [.str g, x] :: putA f v r
  | _ => [.tup [.str f, v]]
theorem lookA_e {f : Str} : ∀ {es : List (Str × D)}, lookA f (es.map eA) = es.lookup f
  | [] => rfl
  | (g, v) :: r => by
    show (if f = g then some v else lookA f (r.map eA)) = _
    rw [List.lookup_cons, lookA_e]
    by_cases h : f = g
    · rw [if_pos h, beq_iff_eq.mpr h]
    · rw [if_neg h, beq_eq_false_iff_ne.mpr h]
theorem putA_e {f : Str} {v : D} : ∀ {es : List (Str × D)}, putA f v (es.map eA) = (putE f v es).map eA
  | [] => rfl
  | (g, x) :: r => by
    show (if g = f then D.tup [.str g, v] :: r.map eA else .tup [.str g, x] :: putA f v (r.map eA)) = _
    unfold putE
    by_cases h : g = f
    · rw [if_pos h, if_pos h]; rfl
    · rw [if_neg h, if_neg h, putA_e]; rfl
theorem flds_look {K : PySem.W.Frag} {H : Hp} {φ : List Addr} {f : Str} {d : D} : ∀ {fs : List (Str × V)} {es : List (Str × D)}, fs.map (·.1) = es.map (·.1) → VDs K H φ (fs.map (·.2)) (es.map (·.2)) → es.lookup f = some d → ∃ v, fs.lookup f = some v ∧ VD K H φ v d
  | [], [], _, _, h => by cases h
  | [], _ :: _, h, _, _ => by cases h
  | _ :: _, [], h, _, _ => by cases h
  | (g, x) :: fs, (k, y) :: es, h, r, e => by
    simp only [List.map_cons, List.cons.injEq] at h
    obtain ⟨h1, h2⟩ := h
    have h1 : g = k := h1
    subst h1
    cases r with
    | cons r1 r2 =>
      rw [List.lookup_cons] at e ⊢
      cases hb : f == g with
      | true => rw [hb] at e; cases e; exact ⟨x, rfl, r1⟩
      | false => rw [hb] at e; exact flds_look h2 r2 e
theorem flds_put {K : PySem.W.Frag} {H : Hp} {φ : List Addr} {f : Str} {v : V} {d : D} (hv : VD K H φ v d) : ∀ {fs : List (Str × V)} {es : List (Str × D)}, fs.map (·.1) = es.map (·.1) → VDs K H φ (fs.map (·.2)) (es.map (·.2)) →
    (putF f v fs).map (·.1) = (putE f d es).map (·.1) ∧ VDs K H φ ((putF f v fs).map (·.2)) ((putE f d es).map (·.2))
  | [], [], _, _ => ⟨rfl, .cons hv .nil⟩
  | [], _ :: _, h, _ => by cases h
  | _ :: _, [], h, _ => by cases h
  | (g, x) :: fs, (k, y) :: es, h, r => by
    simp only [List.map_cons, List.cons.injEq] at h
    obtain ⟨h1, h2⟩ := h
    have h1 : g = k := h1
    subst h1
    cases r with
    | cons r1 r2 =>
      unfold putF putE
      by_cases hg : g = f
      · rw [if_pos hg, if_pos hg]
        exact ⟨by simp only [List.map_cons, h2], .cons hv r2⟩
      · rw [if_neg hg, if_neg hg]
        obtain ⟨p1, p2⟩ := flds_put hv h2 r2
        exact ⟨by simp only [List.map_cons, p1], .cons r1 p2⟩
def fFld (n f : Str) (d : D) (st : Sto) : Option D := match d with
  | .obj n' l => if n' = n then (st[l]?).bind (lookA f) else none
  | _ => none
def mFld (n f : Str) (m : MM D) : MM D := bnd m fun d => asg fun _ st => fFld n f d st
theorem fFld_some {n f : Str} {d z : D} {st : Sto} (h : fFld n f d st = some z) : ∃ l ds, d = .obj n l ∧ st[l]? = some ds ∧ lookA f ds = some z := by
  unfold fFld at h
  split at h
  · rename_i n' l
    split at h
    · rename_i e
      subst e
      cases e : st[l]? with
      | none => rw [e] at h; cases h
      | some ds => rw [e] at h; exact ⟨l, ds, rfl, e, h⟩
    · cases h
  · cases h
def fPutF (n f : Str) (d v : D) : MS := fun en st => match d with
  | .obj n' l => if n' = n then (st[l]?).bind fun ds => if ds.length < 1000 then some (.nx, en, st.set l (putA f v ds)) else none else none
  | _ => none
def sPutF (n f : Str) (mv mo : MM D) : MS := sEx mv fun v => sEx mo fun d => fPutF n f d v
theorem fPutF_some {n f : Str} {d v : D} {en en' : En} {st st' : Sto} {c : Ctl} (h : fPutF n f d v en st = some (c, en', st')) : ∃ l ds, d = .obj n l ∧ st[l]? = some ds ∧ ds.length < 1000 ∧ c = .nx ∧ en' = en ∧ st' = st.set l (putA f v ds) := by
  unfold fPutF at h
  split at h
  · rename_i n' l
    split at h
    · rename_i e
      subst e
      cases e : st[l]? with
      | none => rw [e] at h; cases h
      | some ds =>
        rw [e, Option.bind_some] at h
        split at h
        · rename_i hl
          cases h
          exact ⟨l, ds, rfl, e, hl, rfl, rfl, rfl⟩
        · cases h
    · cases h
  · cases h
theorem VD.obI {K : PySem.W.Frag} {H : Hp} {φ : List Addr} {v : V} {n : Str} {l : Nat} (h : VD K H φ v (.obj n l)) : ∃ a, v = .ref a ∧ ObAt K H φ n l a := by
  cases h with
  | obj h1 h2 => exact ⟨_, rfl, h1, h2⟩
section
variable {X : Cx} {E : XK} {n x : Str} {fs : List Str} {e o : Expr} {es : List Expr} {me mo : MM D} {p pos pos' : Pos}
theorem de_fld {f : Str} (ko : KO X.K n fs) (hf : f ∈ fs) (he : DE X E e me) (hb : attributeBase e f X.env (eval e X.env) = eval e X.env) : DE X E (.Attribute e f pos) (mFld n f me) :=
  pe_imp (pe_fld he hb) fun σ H Q ⟨en, st, φ, g⟩ => ⟨en, st, φ, g.bind.imp fun st1 d φ1 H1 _ _ ⟨k1, r1, g1⟩ v hv => by
    obtain ⟨z, hz, q⟩ := g1.asg
    obtain ⟨l, ds, rfl, hl, hlook⟩ := fFld_some hz
    obtain ⟨a, rfl, ha⟩ := hv.obI
    obtain ⟨dx, fs1, es1, hH, hn, hvd, rfl⟩ := r1.getO n l a ds ha hl
    rw [lookA_e] at hlook
    obtain ⟨w, hw, vw⟩ := flds_look hn hvd hlook
    exact ⟨a, _, dx, fs1, w, rfl, hH, ko.c, ko.f f hf, hw, q w vw⟩⟩
theorem ds_fld {f : Str} (ko : KO X.K n fs) (hf : f ∈ fs) (ho : DE X E o mo) (he : DE X E e me) (hs : swapsWith e (some (.Attribute o f pos')) pos.line X.env = pure false) : DS1 X E (.Assign [.Attribute o f pos'] e pos) (sPutF n f me mo) :=
  ps_imp (ps_fld ho he hs) fun D σ H ⟨en, st, φ, g⟩ => ⟨en, st, φ, g.ex'.imp fun st1 dv φ1 H1 _ _ ⟨k1, r1, g1⟩ v hv =>
    ⟨en, st1, φ1, g1.ex'.imp fun st2 d φ2 H2 _ _ ⟨k2, r2, re, rs, c, en', st', e, q⟩ w hw => by
      obtain ⟨l, ds, rfl, hl, hlen, rfl, rfl, rfl⟩ := fPutF_some e
      obtain ⟨a, rfl, ha⟩ := hw.obI
      obtain ⟨dx, fs1, es1, hH, hn, hvd, rfl⟩ := r2.getO n l a ds ha hl
      obtain ⟨p1, p2⟩ := flds_put (f := f) (hv.mono k2) hn hvd
      obtain ⟨kx, rr⟩ := put_ins (dy := dx) r2 ha.at' hH p1 p2
      rw [← putA_e] at rr
      have hz : fs1.length < 1000 := by
        have := congrArg List.length hn
        simp only [List.length_map] at this hlen
        omega
      exact ⟨a, _, dx, fs1, rfl, hH, ko.c, ko.f f hf, hz, q φ2 _ kx rr σ (re.mono kx)⟩⟩⟩
/-! ### C(..) -/
structure MkD (P : Program) (w : World) (K : PySem.W.Frag) (mg : Str → Option Value) (base : Heap) (k : Nat) (x : Str) (n : Nat) (F : FD) : Prop where
  ex : ∃ (f : Addr) (fd : FuncData) (ps : List Str), mg x = some (.ref (clsA K x)) ∧ Mk K (clsA K x) f ∧ Binds K fd ps [] ∧ FnG P w K mg base (L2.CX P w) k f fd ps (spF K n F)
def fMake (x : Str) (n : Nat) (F : FD) (ds : List D) : Sto → Option (Except Er D × Sto) := fun st => if ds.length + 1 = n then match F (.obj x st.length :: ds) (st ++ [[]]) with
  | some (.ok .non, st') => some (.ok (.obj x st.length), st')
  | some (.error c, st') => some (.error c, st')
  | _ => none
  else none
def mMake (x : Str) (n : Nat) (F : FD) (m : MM (List D)) : MM D := bnd m fun ds => fun _ st => fMake x n F ds st
theorem run_makeG {k : Nat} {f C : Addr} {fd : FuncData} {ps : List Str} {sp : Sp} {CX : CXT} {pins : List (Addr × Obj)} {σ : L2.St} {H : Hp} {s : Shared} {Q : VK} {us : List Value} {vs : List V} (M : Mk X.K C f) (F : FnG X.prog X.w X.K X.mg X.base CX k f fd ps sp) (hgd : X.A.guards = some []) (hr : Room (k + 1) X.A) (hb : Binds X.K fd ps []) (hx : Passes CX X E) (I : Inv X pins σ H s) (r : Vals vs us)
    (h : ∀ x dx, H x = Option.none → H dx = Option.none → dx ≠ x → sp (V.ref x :: vs) (upd (upd H dx (.own x)) x (.ins C dx [])) (fun v H2 => v = .non ∧ Q (.ref x) H2) E) :
    wpAny (model X.prog X.w) X.A (call (.ref C) us) (EP X pins σ Q) X.xe s := by
  have hq := h (s.heap.objs.size + 1) s.heap.objs.size (I.hok.fresh (Nat.le_succ _)) (I.hok.fresh (Nat.le_refl _)) (Nat.ne_of_lt (Nat.lt_succ_self _))
  have I2 := Inv.made (C := C) I
  have r2 : Vals (V.ref (s.heap.objs.size + 1) :: vs) (Value.ref (s.heap.objs.size + 1) :: us) := .cons rfl r
  have hz : BindsTo _ fd ⟨Value.ref (s.heap.objs.size + 1) :: us, []⟩ (ps.zip ((Value.ref (s.heap.objs.size + 1) :: us) ++ [])) := hb _ (Value.ref (s.heap.objs.size + 1) :: us) I2.kIn (by rw [List.append_nil, ← r2.length]; exact F.len _ _ _ _ hq)
  rw [List.append_nil] at hz
  refine wpAny_call (make_map (f := f) I.kIn M.makes M.init (beq_iff_eq.mp M.fn) (codeAny_mono (F.run _ X.stack _ _ ⟨Value.ref (s.heap.objs.size + 1) :: us, []⟩ (Value.ref (s.heap.objs.size + 1) :: us) _ _ E (by exact hgd) (hr.make C us []) (I2.env0.make C us []) hz r2 hq) fun r s' hq' => ?_))
  cases r with
  | error e => exact hx pins σ _ _ e s' I2 hq'
  | ok fl =>
    cases fl with
    | ret u =>
      obtain ⟨v, H', I3, rv, ev, q3⟩ := I2.after hq'
      subst ev
      exact ⟨rv, ⟨V.ref (s.heap.objs.size + 1), H', I3, rfl, q3⟩⟩
    | next => exact False.elim hq'
    | brk => exact False.elim hq'
    | cont => exact False.elim hq'
theorem sp_make {k : Nat} {F : FD} {ds : List D} {K : PySem.W.Frag} {st : Sto} {φ : List Addr} {H : Hp} {vs : List V} {Q : VK} (hv : VDs K H φ vs ds) (rs : RS K H φ st) {r : Except Er D} {st' : Sto} (em : fMake x k F ds st = some (r, st'))
    (q : ∀ φ' H', KX H φ H' φ' → RS K H' φ' st' → Pst K E (fun d φ' H' => ∀ v, VD K H' φ' v d → Q v H') r φ' H') (a dx : Addr) (ha : H a = none) (hdx : H dx = none) (hne : dx ≠ a) :
    spF K k F (V.ref a :: vs) (upd (upd H dx (.own a)) a (.ins (clsA K x) dx [])) (fun v H2 => v = .non ∧ Q (.ref a) H2) E := by
  obtain ⟨kx1, rs1⟩ := lay_any (o := .own a) rs hdx nt_own
  have ha1 : upd H dx (.own a) a = none := by rw [upd_ne (Ne.symm hne)]; exact ha
  obtain ⟨kx2, rs2⟩ := lay_ins (C := clsA K x) (dx := dx) rs1 ha1
  have kx := kx1.trans kx2
  have hat : (φ ++ [a])[st.length]? = some a := by rw [← rs.len, List.getElem?_append_right (Nat.le_refl _)]; simp
  have ho : VD K (upd (upd H dx (.own a)) a (.ins (clsA K x) dx [])) (φ ++ [a]) (.ref a) (.obj x st.length) := .obj hat ⟨_, _, upd_same⟩
  unfold fMake at em
  split at em
  · rename_i hk
    split at em
    · rename_i st2 hF
      cases em
      refine ⟨.obj x st.length :: ds, st ++ [[]], φ ++ [a], .ok .non, st', .cons ho (hv.mono kx), rs2, by simpa using hk, hF, fun φ' H' kx' rs' v hv' => ?_⟩
      cases hv'
      exact ⟨rfl, q φ' H' (kx.trans kx') rs' _ (ho.mono kx')⟩
    · rename_i c st2 hF
      cases em
      exact ⟨.obj x st.length :: ds, st ++ [[]], φ ++ [a], .error c, st', .cons ho (hv.mono kx), rs2, by simpa using hk, hF, fun φ' H' kx' rs' => q φ' H' (kx.trans kx') rs'⟩
    · cases em
  · cases em
theorem de_make {k nn : Nat} {F : FD} {m : MM (List D)} (M : MkD X.prog X.w X.K X.mg X.base k x nn F) (hgd : X.A.guards = some []) (hr : Room (k + 1) X.A) (hx : Passes (L2.CX X.prog X.w) X E) (hg : Gl X x) (ha : DA X E (e :: es) m)
    (hdb : (x == ("__debug__" : Str)) = false) (he : starEach (e :: es) X.env = (false, eval e X.env) :: starEach es X.env) (hpl : (backTo pos (starEach es X.env)).any (·.1) = false) :
    DE X E (.Call (.Name x p) (e :: es) [] pos) (mMake x nn F m) := by
  obtain ⟨f, fd, ps, hm, hM, hb, hF⟩ := M.ex
  refine ⟨fun pins s σ H Q I ⟨en, st, φ, g⟩ => wpAny_Call_Name_kw (ld_glob I hg hm (PySem.W.callWith_K (h₀ := X.base) I.ok.mod.kin hM.kp ?_ he hpl) hdb)⟩
  refine thn (ha.run pos pins s σ H (fun vs H1 => ∀ a dx, H1 a = none → H1 dx = none → dx ≠ a → spF X.K nn F (V.ref a :: vs) (upd (upd H1 dx (.own a)) a (.ins (clsA X.K x) dx [])) (fun v H2 => v = .non ∧ Q (.ref a) H2) E) I ⟨en, st, φ, g.bind.imp fun st1 ds φ1 H1 _ rs1 ⟨k1, r1, g1⟩ vs hv => ?_⟩) fun us s1 ⟨vs, H1, I1, r1, hq⟩ => ⟨I1.kIn, run_makeG hM hF hgd hr hb hx I1 r1 hq⟩
  obtain ⟨re, rs, r, st', em, q⟩ := g1
  exact sp_make hv rs em q
end
end M2
set_option Elab.async false
set_option linter.all false
set_option maxRecDepth 100000
set_option maxHeartbeats 4000000
namespace M2
/-! ### least prices over ways: laps of relaxing, and the matrix of all ways -/
abbrev OI := Option Int
def minO : OI → OI → OI
  | none, b => b
  | some x, none => some x
  | some x, some y => some (min x y)
def addO : OI → OI → OI
  | some x, some y => some (x + y)
  | _, _ => none
/-- none is above all -/
def LeO (a b : OI) : Prop := ∀ y, b = some y → ∃ x, a = some x ∧ x ≤ y
theorem LeO.refl (a : OI) : LeO a a := fun y h => ⟨y, h, Int.le_refl y⟩
theorem LeO.trans {a b c : OI} (h : LeO a b) (k : LeO b c) : LeO a c := fun z e => by
  obtain ⟨y, e1, l1⟩ := k z e
  obtain ⟨x, e2, l2⟩ := h y e1
  exact ⟨x, e2, by omega⟩
theorem LeO.anti {a b : OI} (h : LeO a b) (k : LeO b a) : a = b := by
  cases a with
  | none =>
    cases b with
    | none => rfl
    | some y => obtain ⟨x, e, _⟩ := h y rfl; cases e
  | some x =>
    cases b with
    | none => obtain ⟨y, e, _⟩ := k x rfl; cases e
    | some y =>
      obtain ⟨x', e, l⟩ := h y rfl
      obtain ⟨y', e', l'⟩ := k x rfl
      cases e; cases e'
      rw [show x = y by omega]
theorem LeO.none {a : OI} : LeO a Option.none := fun _ h => nomatch h
theorem minO_l (a b : OI) : LeO (minO a b) a := fun y h => by
  subst h
  cases b with
  | none => exact ⟨y, rfl, Int.le_refl y⟩
  | some z => exact ⟨min y z, rfl, by omega⟩
theorem minO_r (a b : OI) : LeO (minO a b) b := fun y h => by
  subst h
  cases a with
  | none => exact ⟨y, rfl, Int.le_refl y⟩
  | some z => exact ⟨min z y, rfl, by omega⟩
theorem minO_or (a b : OI) : minO a b = a ∨ minO a b = b := by
  cases a with
  | none => exact .inr rfl
  | some x =>
    cases b with
    | none => exact .inl rfl
    | some y =>
      by_cases h : x ≤ y
      · exact .inl (by show some (min x y) = some x; rw [Int.min_eq_left h])
      · exact .inr (by show some (min x y) = some y; rw [Int.min_eq_right (by omega)])
theorem addO_some {a b : OI} {v : Int} (h : addO a b = some v) : ∃ x y, a = some x ∧ b = some y ∧ v = x + y := by
  cases a with
  | none => cases h
  | some x =>
    cases b with
    | none => cases h
    | some y => cases h; exact ⟨x, y, rfl, rfl, rfl⟩
theorem addO_le {a a' b b' : OI} (h : LeO a a') (k : LeO b b') : LeO (addO a b) (addO a' b') := fun v e => by
  obtain ⟨x, y, rfl, rfl, rfl⟩ := addO_some e
  obtain ⟨x', rfl, l⟩ := h x rfl
  obtain ⟨y', rfl, l'⟩ := k y rfl
  exact ⟨x' + y', rfl, by omega⟩
theorem addO_assoc (a b c : OI) : addO (addO a b) c = addO a (addO b c) := by
  cases a <;> cases b <;> cases c <;> first | rfl | (show some _ = some _; rw [Int.add_assoc])
theorem addO_zl (a : OI) : addO (some 0) a = a := by
  cases a with
  | none => rfl
  | some x => show some (0 + x) = some x; rw [Int.zero_add]
theorem addO_zr (a : OI) : addO a (some 0) = a := by
  cases a with
  | none => rfl
  | some x => show some (x + 0) = some x; rw [Int.add_zero]
abbrev Tn := Nat × Nat × Int
/-- a walk's weight -/
inductive Wl (ts : List Tn) : Nat → Nat → Int → Prop
  | nil (i : Nat) : Wl ts i i 0
  | snoc {i m e : Nat} {w p : Int} : Wl ts i m w → (m, e, p) ∈ ts → Wl ts i e (w + p)
theorem Wl.trans {ts : List Tn} {i m e : Nat} {w u : Int} (h : Wl ts i m w) (k : Wl ts m e u) : Wl ts i e (w + u) := by
  induction k with
  | nil => rw [Int.add_zero]; exact h
  | snoc k1 hm ih => rw [← Int.add_assoc]; exact .snoc ih hm
def sm (g : Nat → Int) : Nat → Int
  | 0 => 0
  | k + 1 => sm g k + g k
theorem Wl.fn {ts : List Tn} {i e : Nat} {w : Int} (h : Wl ts i e w) : ∃ (f : Nat → Nat) (g : Nat → Int) (k : Nat), f 0 = i ∧ f k = e ∧ (∀ t, t < k → (f t, f (t + 1), g t) ∈ ts) ∧ w = sm g k := by
  induction h with
  | nil => exact ⟨fun _ => i, fun _ => 0, 0, rfl, rfl, fun t h => absurd h (by omega), rfl⟩
  | @snoc m e w p _ hm ih =>
    obtain ⟨f, g, k, h0, hk, hs, rfl⟩ := ih
    refine ⟨fun t => if t ≤ k then f t else e, fun t => if t < k then g t else p, k + 1, by simpa using h0, (if_neg (by omega) : (if k + 1 ≤ k then f (k + 1) else e) = e), fun t ht => ?_, ?_⟩
    · by_cases c : t < k
      · simp only [if_pos (show t ≤ k by omega), if_pos (show t + 1 ≤ k by omega), if_pos c]
        exact hs t c
      · have : t = k := by omega
        subst this
        simp only [Nat.le_refl, if_true, if_neg (show ¬ t + 1 ≤ t by omega), if_neg (Nat.lt_irrefl t)]
        rw [hk]; exact hm
    · have : ∀ t, t ≤ k → sm (fun t => if t < k then g t else p) t = sm g t := by
        intro t
        induction t with
        | zero => intro _; rfl
        | succ t ih2 =>
          intro hl
          show sm _ t + (if t < k then g t else p) = sm g t + g t
          rw [ih2 (by omega), if_pos (by omega)]
      show sm g k + p = sm _ k + (if k < k then g k else p)
      rw [this k (Nat.le_refl k), if_neg (Nat.lt_irrefl k)]
theorem pigeon : ∀ (n : Nat) (f : Nat → Nat), (∀ t, t ≤ n → f t < n) → ∃ p q, p < q ∧ q ≤ n ∧ f p = f q
  | 0, f, h => absurd (h 0 (Nat.le_refl 0)) (by omega)
  | n + 1, f, h => by
    by_cases c : ∃ t, t ≤ n ∧ f t = f (n + 1)
    · obtain ⟨t, ht, e⟩ := c
      exact ⟨t, n + 1, by omega, Nat.le_refl _, e⟩
    · have hn : ∀ t, t ≤ n → f t ≠ f (n + 1) := fun t ht e => c ⟨t, ht, e⟩
      obtain ⟨p, q, hpq, hq, e⟩ := pigeon n (fun t => if f t = n then f (n + 1) else f t) (fun t ht => by
        show (if f t = n then f (n + 1) else f t) < n
        have h1 := h t (by omega)
        have h2 := h (n + 1) (Nat.le_refl _)
        by_cases d : f t = n
        · rw [if_pos d]
          have := hn t ht
          omega
        · rw [if_neg d]; omega)
      refine ⟨p, q, hpq, by omega, ?_⟩
      replace e : (if f p = n then f (n + 1) else f p) = (if f q = n then f (n + 1) else f q) := e
      by_cases d1 : f p = n
      · by_cases d2 : f q = n
        · omega
        · rw [if_pos d1, if_neg d2] at e
          exact absurd e.symm (hn q (by omega))
      · by_cases d2 : f q = n
        · rw [if_neg d1, if_pos d2] at e
          exact absurd e (hn p (by omega))
        · rwa [if_neg d1, if_neg d2] at e
theorem sm_mono {g : Nat → Int} {a : Nat} (h : ∀ t, t < a → 0 ≤ g t) : ∀ b, b ≤ a → sm g b ≤ sm g a := by
  induction a with
  | zero => intro b hb; rw [show b = 0 by omega]; exact Int.le_refl _
  | succ a ih =>
    intro b hb
    by_cases c : b = a + 1
    · rw [c]; exact Int.le_refl _
    · have := ih (fun t ht => h t (by omega)) b (by omega)
      have := h a (by omega)
      show _ ≤ sm g a + g a
      omega
/-- a walk without a vertex twice is as cheap -/
theorem short {ts : List Tn} {n : Nat} (ht : ∀ t ∈ ts, t.1 < n ∧ t.2.1 < n ∧ 0 ≤ t.2.2) : ∀ (k : Nat) (f : Nat → Nat) (g : Nat → Int), (∀ t, t < k → (f t, f (t + 1), g t) ∈ ts) →
    ∃ (f' : Nat → Nat) (g' : Nat → Int) (k' : Nat), f' 0 = f 0 ∧ f' k' = f k ∧ (∀ t, t < k' → (f' t, f' (t + 1), g' t) ∈ ts) ∧ sm g' k' ≤ sm g k ∧ k' ≤ n := by
  intro k
  induction k using Nat.strongRecOn with
  | ind k ih =>
    intro f g hs
    by_cases c : k ≤ n
    · exact ⟨f, g, k, rfl, rfl, hs, Int.le_refl _, c⟩
    · obtain ⟨p, q, hpq, hq, e⟩ := pigeon n f fun t h => (ht _ (hs t (by omega))).1
      have gp : ∀ t, t < k → 0 ≤ g t := fun t h => (ht _ (hs t h)).2.2
      have hs2 : ∀ t, t < k - (q - p) → ((fun t => if t ≤ p then f t else f (t + (q - p))) t, (fun t => if t ≤ p then f t else f (t + (q - p))) (t + 1), (fun t => if t < p then g t else g (t + (q - p))) t) ∈ ts := by
        intro t h
        show ((if t ≤ p then f t else f (t + (q - p))), (if t + 1 ≤ p then f (t + 1) else f (t + 1 + (q - p))), (if t < p then g t else g (t + (q - p)))) ∈ ts
        by_cases c1 : t < p
        · rw [if_pos (by omega), if_pos (by omega), if_pos c1]
          exact hs t (by omega)
        · by_cases c2 : t = p
          · subst c2
            rw [if_pos (Nat.le_refl t), if_neg (by omega), if_neg c1, e, show t + (q - t) = q by omega, show t + 1 + (q - t) = q + 1 by omega]
            exact hs q (by omega)
          · rw [if_neg (by omega), if_neg (by omega), if_neg c1, show t + 1 + (q - p) = t + (q - p) + 1 by omega]
            exact hs _ (by omega)
      obtain ⟨f', g', k', h0, hk, hs', hw, hn⟩ := ih (k - (q - p)) (by omega) _ _ hs2
      refine ⟨f', g', k', ?_, ?_, hs', Int.le_trans hw ?_, hn⟩
      · rw [h0]; show (if 0 ≤ p then f 0 else _) = _; rw [if_pos (Nat.zero_le _)]
      · rw [hk]; show (if k - (q - p) ≤ p then _ else f (k - (q - p) + (q - p))) = _
        by_cases c3 : k - (q - p) ≤ p
        · have : k = q := by omega
          rw [if_pos c3, this, show q - (q - p) = p by omega, e]
        · rw [if_neg c3]; congr 1; omega
      · have a1 : ∀ t, t ≤ p → sm (fun t => if t < p then g t else g (t + (q - p))) t = sm g t := by
          intro t
          induction t with
          | zero => intro _; rfl
          | succ t ih2 =>
            intro hl
            show sm _ t + (if t < p then g t else _) = sm g t + g t
            rw [ih2 (by omega), if_pos (by omega)]
        have a2 : ∀ d, p + d ≤ k - (q - p) → sm (fun t => if t < p then g t else g (t + (q - p))) (p + d) ≤ sm g (q + d) := by
          intro d
          induction d with
          | zero =>
            intro _
            show sm _ p ≤ sm g q
            rw [a1 p (Nat.le_refl _)]
            exact sm_mono (fun t h => gp t (by omega)) p (by omega)
          | succ d ih2 =>
            intro hl
            show sm _ (p + d) + (if p + d < p then _ else g (p + d + (q - p))) ≤ sm g (q + d) + g (q + d)
            rw [if_neg (by omega), show p + d + (q - p) = q + d by omega]
            have := ih2 (by omega)
            omega
        have := a2 (k - q) (by omega)
        rw [show p + (k - q) = k - (q - p) by omega, show q + (k - q) = k by omega] at this
        exact this
/-! the laps -/
abbrev Vec := Nat → OI
def upV (r : Vec) (e : Nat) (v : OI) : Vec := fun i => if i = e then v else r i
def relax (r : Vec) (t : Tn) : Vec := upV r t.2.1 (minO (r t.2.1) (addO (r t.1) (some t.2.2)))
def lap (ts : List Tn) (r : Vec) : Vec := ts.foldl relax r
def laps (ts : List Tn) : Nat → Vec → Vec
  | 0, r => r
  | k + 1, r => lap ts (laps ts k r)
theorem relax_le (r : Vec) (t : Tn) (e : Nat) : LeO (relax r t e) (r e) := by
  unfold relax upV
  by_cases c : e = t.2.1
  · rw [if_pos c, c]; exact minO_l _ _
  · rw [if_neg c]; exact .refl _
theorem lap_le : ∀ (ts : List Tn) (r : Vec) (e : Nat), LeO (lap ts r e) (r e)
  | [], r, e => .refl _
  | t :: ts, r, e => (lap_le ts (relax r t) e).trans (relax_le r t e)
theorem lap_step : ∀ (ts : List Tn) (r : Vec) (t : Tn), t ∈ ts → LeO (lap ts r t.2.1) (addO (r t.1) (some t.2.2))
  | t0 :: ts, r, t, h => by
    rcases List.mem_cons.mp h with rfl | h
    · refine (lap_le ts (relax r t) t.2.1).trans ?_
      unfold relax upV
      rw [if_pos rfl]; exact minO_r _ _
    · exact (lap_step ts (relax r t0) t h).trans (addO_le (relax_le r t0 t.1) (.refl _))
theorem laps_walk {ts : List Tn} {made : Vec} {f : Nat → Nat} {g : Nat → Int} : ∀ (t k : Nat), t ≤ k → (∀ u, u < t → (f u, f (u + 1), g u) ∈ ts) → LeO (laps ts k made (f t)) (addO (made (f 0)) (some (sm g t)))
  | 0, 0, _, _ => by rw [show sm g 0 = 0 from rfl, addO_zr]; exact .refl _
  | 0, k + 1, _, h => (lap_le ts _ _).trans (laps_walk 0 k (Nat.zero_le _) h)
  | t + 1, 0, hk, _ => absurd hk (by omega)
  | t + 1, k + 1, hk, h => by
    have h1 := laps_walk t k (by omega) (made := made) fun u hu => h u (by omega)
    have h2 := lap_step ts (laps ts k made) _ (h t (by omega))
    refine h2.trans ?_
    have := addO_le h1 (LeO.refl (some (g t)))
    rw [addO_assoc] at this
    exact this
/-- where a price comes from -/
def Att (ts : List Tn) (made : Vec) (e : Nat) (v : Int) : Prop := ∃ i u w, made i = some u ∧ Wl ts i e w ∧ v = u + w
theorem att_lap {ts all : List Tn} {made : Vec} : ∀ (r : Vec), (∀ t ∈ ts, t ∈ all) → (∀ e v, r e = some v → Att all made e v) → ∀ e v, lap ts r e = some v → Att all made e v := by
  induction ts with
  | nil => intro r _ h; exact h
  | cons t ts ih =>
    intro r hm h
    refine ih (relax r t) (fun x hx => hm x (List.mem_cons_of_mem _ hx)) fun e v hv => ?_
    unfold relax upV at hv
    by_cases c : e = t.2.1
    · rw [if_pos c] at hv
      rcases minO_or (r t.2.1) (addO (r t.1) (some t.2.2)) with q | q
      · rw [q, ← c] at hv; exact h e v hv
      · rw [q] at hv
        obtain ⟨x, y, e1, e2, rfl⟩ := addO_some hv
        cases e2
        obtain ⟨i, u, w, h1, h2, rfl⟩ := h _ _ e1
        refine ⟨i, u, w + t.2.2, h1, ?_, by omega⟩
        rw [c]
        exact .snoc h2 (hm _ List.mem_cons_self)
    · rw [if_neg c] at hv; exact h e v hv
theorem att_laps {ts : List Tn} {made : Vec} : ∀ (k : Nat) (e : Nat) (v : Int), laps ts k made e = some v → Att ts made e v
  | 0, e, v, h => ⟨e, v, 0, h, .nil e, by omega⟩
  | k + 1, e, v, h => att_lap _ (fun _ h => h) (att_laps k) e v h
/-! the matrix -/
abbrev MatO := Nat → Nat → OI
structure WM (ts : List Tn) (n : Nat) (M : MatO) : Prop where
  d : ∀ i, i < n → M i i = some 0
  t : ∀ t ∈ ts, LeO (M t.1 t.2.1) (some t.2.2)
  w : ∀ i j v, M i j = some v → Wl ts i j v
def Tri (n : Nat) (M : MatO) (k : Nat) : Prop := ∀ i j, LeO (M i j) (addO (M i k) (M k j))
def fwO (m : Nat) (M : MatO) : MatO := fun i j => minO (M i j) (addO (M i m) (M m j))
theorem fwO_le (m : Nat) (M : MatO) (i j : Nat) : LeO (fwO m M i j) (M i j) := minO_l _ _
theorem fwO_via (m : Nat) (M : MatO) (i j : Nat) : LeO (fwO m M i j) (addO (M i m) (M m j)) := minO_r _ _
theorem fwO_tri {n m k : Nat} {M : MatO} (hd : M m m = some 0) (h : Tri n M k) : Tri n (fwO m M) k := fun i j => by
  have a : ∀ x y, LeO (addO (M x k) (M k y)) (addO (M x k) (M k y)) := fun _ _ => .refl _
  rcases minO_or (M i k) (addO (M i m) (M m k)) with e1 | e1 <;> rcases minO_or (M k j) (addO (M k m) (M m j)) with e2 | e2
  · show LeO _ (addO (minO _ _) (minO _ _))
    rw [e1, e2]; exact (fwO_le m M i j).trans (h i j)
  · show LeO _ (addO (minO _ _) (minO _ _))
    rw [e1, e2, ← addO_assoc]
    exact (fwO_via m M i j).trans (addO_le (h i m) (.refl _))
  · show LeO _ (addO (minO _ _) (minO _ _))
    rw [e1, e2, addO_assoc]
    exact (fwO_via m M i j).trans (addO_le (.refl _) (h m j))
  · show LeO _ (addO (minO _ _) (minO _ _))
    rw [e1, e2, addO_assoc, ← addO_assoc (M m k)]
    refine (fwO_via m M i j).trans (addO_le (.refl _) ?_)
    have := addO_le (h m m) (LeO.refl (M m j))
    rw [hd, addO_zl] at this
    exact this
theorem fwO_self {n m : Nat} {M : MatO} (hd : M m m = some 0) : Tri n (fwO m M) m := fun i j => by
  have e1 : fwO m M i m = M i m := by
    show minO (M i m) (addO (M i m) (M m m)) = _
    rw [hd, addO_zr]
    rcases minO_or (M i m) (M i m) with e | e <;> exact e
  have e2 : fwO m M m j = M m j := by
    show minO (M m j) (addO (M m m) (M m j)) = _
    rw [hd, addO_zl]
    rcases minO_or (M m j) (M m j) with e | e <;> exact e
  rw [e1, e2]; exact fwO_via m M i j
theorem WM.fw {ts : List Tn} {n m : Nat} {M : MatO} (p : ∀ i j v, M i j = some v → 0 ≤ v) (h : WM ts n M) : WM ts n (fwO m M) := by
  refine ⟨fun i hi => ?_, fun t ht => (fwO_le m M _ _).trans (h.t t ht), fun i j v e => ?_⟩
  · show minO (M i i) _ = _
    rcases minO_or (M i i) (addO (M i m) (M m i)) with e | e
    · rw [e]; exact h.d i hi
    · obtain ⟨x, hx, l⟩ := minO_l (M i i) (addO (M i m) (M m i)) 0 (h.d i hi)
      rw [hx]
      rw [e] at hx
      obtain ⟨a, b, e1, e2, rfl⟩ := addO_some hx
      have := p _ _ _ e1
      have := p _ _ _ e2
      congr 1; omega
  · have e : minO (M i j) (addO (M i m) (M m j)) = some v := e
    rcases minO_or (M i j) (addO (M i m) (M m j)) with q | q
    · rw [q] at e; exact h.w i j v e
    · rw [q] at e
      obtain ⟨a, b, e1, e2, rfl⟩ := addO_some e
      exact (h.w _ _ _ e1).trans (h.w _ _ _ e2)
theorem Wl.nonneg {ts : List Tn} (ht : ∀ t ∈ ts, 0 ≤ t.2.2) {i e : Nat} {w : Int} (h : Wl ts i e w) : 0 ≤ w := by
  induction h with
  | nil => exact Int.le_refl 0
  | snoc _ hm ih => have := ht _ hm; have := ih; simp only at *; omega
def fwN : Nat → MatO → MatO
  | 0, M => M
  | k + 1, M => fwO k (fwN k M)
theorem WM.fws {ts : List Tn} {n : Nat} {M : MatO} (ht : ∀ t ∈ ts, 0 ≤ t.2.2) (h : WM ts n M) : ∀ k, k ≤ n → WM ts n (fwN k M) ∧ ∀ q, q < k → Tri n (fwN k M) q
  | 0, _ => ⟨h, fun q hq => absurd hq (by omega)⟩
  | k + 1, hk => by
    obtain ⟨h1, h2⟩ := WM.fws ht h k (by omega)
    have hd := h1.d k (by omega)
    refine ⟨h1.fw fun i j v e => (h1.w i j v e).nonneg ht, fun q hq => ?_⟩
    by_cases c : q = k
    · subst c; exact fwO_self hd
    · exact fwO_tri hd (h2 q (by omega))
theorem tri_walk {ts : List Tn} {n : Nat} {M : MatO} (h : WM ts n M) (ht : ∀ t ∈ ts, t.1 < n ∧ t.2.1 < n) (tr : ∀ q, q < n → Tri n M q) {i e : Nat} {w : Int} (hi : i < n) (k : Wl ts i e w) : LeO (M i e) (some w) := by
  induction k with
  | nil => rw [h.d i hi]; exact .refl _
  | @snoc m e w p _ hm ih =>
    refine (tr m (ht _ hm).1 i e).trans ?_
    exact addO_le ih (h.t _ hm)
/-- the program's row over all ways -/
def rowV (made : Vec) (ws : List Tn) : Vec := ws.foldl (fun r t => upV r t.2.1 (minO (r t.2.1) (addO (made t.1) (some t.2.2)))) fun _ => none
theorem rowV_gen (made : Vec) : ∀ (ws : List Tn) (r : Vec) (e : Nat), LeO (ws.foldl (fun r t => upV r t.2.1 (minO (r t.2.1) (addO (made t.1) (some t.2.2)))) r e) (r e) ∧
    (∀ t ∈ ws, LeO (ws.foldl (fun r t => upV r t.2.1 (minO (r t.2.1) (addO (made t.1) (some t.2.2)))) r t.2.1) (addO (made t.1) (some t.2.2))) ∧
    (ws.foldl (fun r t => upV r t.2.1 (minO (r t.2.1) (addO (made t.1) (some t.2.2)))) r e = r e ∨ ∃ t ∈ ws, t.2.1 = e ∧ ws.foldl (fun r t => upV r t.2.1 (minO (r t.2.1) (addO (made t.1) (some t.2.2)))) r e = addO (made t.1) (some t.2.2))
  | [], r, e => ⟨.refl _, fun _ h => (nomatch h), .inl rfl⟩
  | t :: ws, r, e => by
    have one : ∀ x, LeO (upV r t.2.1 (minO (r t.2.1) (addO (made t.1) (some t.2.2))) x) (r x) := fun x => by
      unfold upV
      by_cases c : x = t.2.1
      · rw [if_pos c, c]; exact minO_l _ _
      · rw [if_neg c]; exact .refl _
    obtain ⟨h1, h2, h3⟩ := rowV_gen made ws (upV r t.2.1 (minO (r t.2.1) (addO (made t.1) (some t.2.2)))) e
    refine ⟨h1.trans (one e), fun u hu => ?_, ?_⟩
    · rcases List.mem_cons.mp hu with rfl | hu
      · refine ((rowV_gen made ws _ u.2.1).1).trans ?_
        show LeO (if u.2.1 = u.2.1 then minO (r u.2.1) (addO (made u.1) (some u.2.2)) else r u.2.1) _
        rw [if_pos rfl]; exact minO_r _ _
      · exact h2 u hu
    · rcases h3 with h3 | ⟨u, hu, e1, e2⟩
      · by_cases c : e = t.2.1
        · have q : upV r t.2.1 (minO (r t.2.1) (addO (made t.1) (some t.2.2))) e = minO (r t.2.1) (addO (made t.1) (some t.2.2)) := by unfold upV; rw [if_pos c]
          rw [q] at h3
          rcases minO_or (r t.2.1) (addO (made t.1) (some t.2.2)) with z | z
          · left; rw [List.foldl_cons, h3, z, c]
          · right; exact ⟨t, List.mem_cons_self, c.symm, by rw [List.foldl_cons, h3, z]⟩
        · left
          rw [List.foldl_cons, h3]
          unfold upV; rw [if_neg c]
      · exact .inr ⟨u, List.mem_cons_of_mem _ hu, e1, by rw [List.foldl_cons]; exact e2⟩
def waysL (n : Nat) (M : MatO) : List Tn := (List.range n).flatMap fun i => (List.range n).filterMap fun j => (M i j).map fun p => (i, j, p)
theorem mem_ways {n : Nat} {M : MatO} {t : Tn} : t ∈ waysL n M ↔ t.1 < n ∧ t.2.1 < n ∧ M t.1 t.2.1 = some t.2.2 := by
  unfold waysL
  rw [List.mem_flatMap]
  constructor
  · rintro ⟨i, hi, h⟩
    rw [List.mem_filterMap] at h
    obtain ⟨j, hj, h⟩ := h
    cases e : M i j with
    | none => rw [e] at h; cases h
    | some p =>
      rw [e] at h
      cases h
      exact ⟨List.mem_range.mp hi, List.mem_range.mp hj, e⟩
  · rintro ⟨h1, h2, h3⟩
    refine ⟨t.1, List.mem_range.mpr h1, List.mem_filterMap.mpr ⟨t.2.1, List.mem_range.mpr h2, ?_⟩⟩
    rw [h3]; rfl
/-- the two agree -/
theorem rows_agree {ts : List Tn} {n : Nat} {M : MatO} {made : Vec} (hM : WM ts n M) (tr : ∀ q, q < n → Tri n M q) (ht : ∀ t ∈ ts, t.1 < n ∧ t.2.1 < n ∧ 0 ≤ t.2.2) (hmade : ∀ i, n ≤ i → made i = none) {e : Nat} (he : e < n) :
    rowV made (waysL n M) e = laps ts n made e := by
  have lo : ∀ i u w, made i = some u → Wl ts i e w → LeO (laps ts n made e) (some (u + w)) := by
    intro i u w hu hw
    obtain ⟨f, g, k, rfl, rfl, hs, rfl⟩ := hw.fn
    obtain ⟨f', g', k', h0, hk, hs', hl, hn⟩ := short ht k f g hs
    have := laps_walk (made := made) k' n hn hs'
    rw [hk, h0, hu] at this
    exact this.trans fun y hy => by cases hy; exact ⟨_, rfl, by omega⟩
  obtain ⟨_, g2, g3⟩ := rowV_gen made (waysL n M) (fun _ => none) e
  refine LeO.anti (fun v hv => ?_) (fun v hv => ?_)
  · obtain ⟨i, u, w, h1, h2, rfl⟩ := att_laps n e v hv
    have hi : i < n := Nat.lt_of_not_le fun h => by rw [hmade i h] at h1; cases h1
    obtain ⟨x, hx, hl⟩ := tri_walk hM (fun t h => ⟨(ht t h).1, (ht t h).2.1⟩) tr hi h2 w rfl
    obtain ⟨y, hy, hl2⟩ := g2 (i, e, x) (mem_ways.mpr ⟨hi, he, hx⟩) (u + x) (by show addO (made i) (some x) = _; rw [h1]; rfl)
    exact ⟨y, hy, by omega⟩
  · rcases g3 with q | ⟨t, ht2, e1, q⟩
    · rw [show rowV made (waysL n M) e = _ from q] at hv; cases hv
    · rw [show rowV made (waysL n M) e = _ from q] at hv
      obtain ⟨x, y, h1, h2, rfl⟩ := addO_some hv
      cases h2
      have := (mem_ways.mp ht2).2.2
      have hw := hM.w _ _ _ this
      rw [e1] at hw
      exact lo _ _ _ h1 hw _ rfl
end M2
set_option Elab.async false
set_option linter.all false
set_option maxRecDepth 100000
set_option maxHeartbeats 4000000
namespace M2
open PySem PySem.Spec PyProof.Rows L2
open Classical
variable [Tb]
/-! ### xs[:0:-1] of a list that is not empty -/
theorem bk1_list (x : Value) (xs : List Value) : slicePick (x :: xs).toArray none (some 0) (some (-1)) = xs.reverse.toArray := by
  unfold slicePick
  have b : ∀ n : Nat, sliceBounds none (some 0) (some (-1)) (n + 1) = ((n : Int), 0, -1) := fun n => by
    unfold sliceBounds
    simp
    omega
  rw [show (x :: xs).toArray.size = xs.length + 1 by simp, b]
  show ((sliceRange (xs.length : Int) 0 (-1)).filterMap ((x :: xs).toArray[·]?)).toArray = _
  have r : sliceRange (xs.length : Int) 0 (-1) = (List.range xs.length).map fun (k : Nat) => ((xs.length : Int) + (k : Int) * (-1)).toNat := by
    unfold sliceRange
    rw [if_neg (by decide)]
    have e1 : (if (xs.length : Int) > 0 then ((xs.length : Int) - 0 - -1 - 1) / (- -1) else 0) = (xs.length : Int) := by
      split
      · rw [show (- -1 : Int) = 1 from rfl, Int.ediv_one]; omega
      · omega
    rw [e1]
    show (List.range ((xs.length : Int)).toNat).map _ = _
    rw [Int.toNat_natCast]
    refine List.map_congr_left fun k _ => ?_
    congr 1
    omega
  rw [r, List.filterMap_map]
  exact bk1_pick x xs
section
variable {X : Cx} {E : XK} {e : Expr} {me : MM D} {pos : Pos}
def tBk1L (K : PySem.W.Frag) (te : TE) : TE := fun σ H Q => te σ H fun x H1 => ∃ a y ys, x = .ref a ∧ SqL K H1 a (y :: ys) ∧ ∀ p, H1 p = none → Q (.ref p) (upd H1 p (.lst ys.reverse))
theorem pe_bk1L {te : TE} {k k0 : Nat} {p0 p1 p2 p3 : Pos} (he : PE X e te) : PE X (.Subscript e (.Slice none (some (.Constant (.int 0) k0 p0)) (some (.UnaryOp .USub (.Constant (.int 1) k p1) p2)) p3) pos) (tBk1L X.K te) := by
  refine ⟨fun pins s σ H Q I h => Subscript_ (thn (he.run pins s σ H _ I h) fun v s1 ⟨x, H1, I1, r1, q1⟩ => ?_)⟩
  obtain ⟨a, y, ys, ex, hx, q⟩ := q1
  subst ex
  cases r1
  have stp : PO X (some (.UnaryOp .USub (.Constant (.int 1) k p1) p2)) (tPart (tUn (rU fun i => .int (-i)) (tC (.int 1)))) := po_some (pe_un un_neg pe_int)
  have upp : PO X (some (.Constant (.int 0) k0 p0)) (tPart (tC (.int 0))) := po_some pe_int
  refine wpAny_Slice (thn (po_none.run pins s1 σ H1 (fun o Hb => o = none ∧ Hb = H1) I1 ⟨rfl, rfl⟩) fun vl s2 ⟨l, Hb, I2, pl, el, eb⟩ => ?_)
  subst el eb
  refine thn (upp.run pins s2 σ Hb (fun o Hc => o = some 0 ∧ Hc = Hb) I2 ⟨0, rfl, rfl, rfl⟩) fun vu s3 ⟨u, Hc, I3, pu, eu, ec⟩ => ?_
  subst eu ec
  refine thn (stp.run pins s3 σ Hc (fun o Hd => o = some (-1) ∧ Hd = Hc) I3 ⟨1, rfl, -1, rfl, rfl, rfl⟩) fun vs s4 ⟨o, Hd, I4, ps, eo, ed⟩ => ?_
  subst eo ed
  have J : Inv X pins σ Hd { s4 with heap := s4.heap.push { cls := .type "slice", data := .fields #[vl, vu, vs] } } := I4.kept (t' := s4.toks) fun b ob z => Heap.get?_push_of_some _ z
  show wpAny (model X.prog X.w) X.A (subscriptTail e (.Slice none (some (.Constant (.int 0) k0 p0)) (some (.UnaryOp .USub (.Constant (.int 1) k p1) p2)) p3) (.ref a) (.ref s4.heap.objs.size)) (EP X pins σ Q) X.xe { s4 with heap := s4.heap.push { cls := .type "slice", data := .fields #[vl, vu, vs] } }
  obtain ⟨its, r, ht, hz⟩ := J.list hx
  cases r with
  | @cons _ u0 _ us r0 rr =>
    have rl : ys.length = us.length := (show Vals ys us from rr).length
    refine tail_any (ops := [.ref a, .ref s4.heap.objs.size]) ht.isList.typeIs (PySem.slot_list_getitem.lookup) (wpAny_getItem_list_slice ht.isList (Heap.IsSliceOf.new _ vl vu vs) pl pu ps (by decide) ?_ (by rw [List.size_toArray, List.length_cons]; rw [List.length_cons] at hz; omega)) (by with_unfolding_all rfl)
    rw [bk1_list]
    exact ⟨.ref _, _, J.laid (t' := s4.toks) (o := .lst ys.reverse) (fun b ob z => Heap.get?_push_of_some _ z) (Nat.le_refl _) ⟨by rw [List.length_reverse]; rw [List.length_cons] at hz; omega, _, 0, (show Vals ys us from rr).reverse, Heap.get?_push_size _ rfl⟩, rfl, q _ (J.hok.fresh (Nat.le_refl _))⟩
def fBk1L (d : D) : Sto → Option (D × Sto) := fun st => match d with
  | .mu l => match st[l]? with
    | some (_ :: xs) => some (.mu st.length, st ++ [xs.reverse])
    | _ => none
  | _ => none
def mBk1L (m : MM D) : MM D := bnd m fun d => stm (fBk1L d)
theorem fBk1L_some {d z : D} {st st' : Sto} (h : fBk1L d st = some (z, st')) : ∃ l y xs, d = .mu l ∧ st[l]? = some (y :: xs) ∧ z = .mu st.length ∧ st' = st ++ [xs.reverse] := by
  unfold fBk1L at h
  split at h
  · rename_i l
    split at h
    · rename_i y xs e
      cases h
      exact ⟨l, y, xs, rfl, e, rfl, rfl⟩
    · cases h
  · cases h
theorem de_bk1L {k k0 : Nat} {p0 p1 p2 p3 : Pos} (he : DE X E e me) : DE X E (.Subscript e (.Slice none (some (.Constant (.int 0) k0 p0)) (some (.UnaryOp .USub (.Constant (.int 1) k p1) p2)) p3) pos) (mBk1L me) :=
  pe_imp (pe_bk1L he) fun σ H Q ⟨en, st, φ, g⟩ => ⟨en, st, φ, g.bind.imp fun st1 d φ1 H1 _ _ ⟨k1, r1, g1⟩ v hv => by
    obtain ⟨z, st2, e, q⟩ := g1.stm
    obtain ⟨l, y, xs, rfl, e1, rfl, rfl⟩ := fBk1L_some e
    obtain ⟨a, rfl, ha⟩ := hv.mutI
    obtain ⟨ws, g1', g2'⟩ := r1.get l a _ ha e1
    cases g2' with
    | @cons w ws _ _ h3 h4 =>
      refine ⟨a, w, ws, rfl, .of g1', fun p hp => ?_⟩
      obtain ⟨kx, rr⟩ := lay_lst (xs := ws.reverse) r1 hp h4.rev
      exact q _ _ kx rr _ (.mu (by rw [← r1.len, List.getElem?_append_right (Nat.le_refl _)]; simp) ⟨_, upd_same⟩)⟩
/-! ### bool(x) -/
def fBool : FDB := fun ds st => match ds with
  | [.int i] => some (.bl (i != 0), st)
  | [.bl k] => some (.bl k, st)
  | _ => none
theorem cal_bool : CalD X (fun xs H Q => (∃ i, xs = [.int i] ∧ Q (.bl (i != 0)) H) ∨ ∃ k, xs = [.bl k] ∧ Q (.bl k) H) fBool := by
  intro H φ st Q vs ds dz st' rs hv hf q
  unfold fBool at hf
  split at hf
  · rename_i i
    cases hf
    obtain ⟨v, rfl, h⟩ := hv.one
    cases h
    exact .inl ⟨i, rfl, q _ φ H .refl rs .bl⟩
  · rename_i k
    cases hf
    obtain ⟨v, rfl, h⟩ := hv.one
    cases h
    exact .inr ⟨k, rfl, q _ φ H .refl rs .bl⟩
  · cases hf
end
/-! ### targets that are stored into: a[i], b[j], .. = .. -/
abbrev nxOnly (R : L2.St → Hp → Prop) : Ends := { nx := R, rt := fun _ _ => False, bk := fun _ _ => False, ct := fun _ _ => False }
def tGS (K : PySem.W.Frag) (E : XK) (f : D → MS) : TG := fun v σ H R => ∃ en st φ d, VD K H φ v d ∧ Sat K E (f d) σ en st φ H (nxOnly R)
def tGsS (K : PySem.W.Frag) (E : XK) (f : List D → MS) : TGs := fun vs σ H R => ∃ en st φ ds, VDs K H φ vs ds ∧ Sat K E (f ds) σ en st φ H (nxOnly R)
def gPut (mo mi : MM D) (v : D) : MS := sEx mo fun a => sEx mi fun i => fun en st => match a, i with
  | .mu l, .int k => (st[l]?).bind fun ds => (ixN ds.length k).map fun j => (.nx, en, st.set l (ds.set j v))
  | _, _ => none
def gAll : List (D → MS) → List D → MS
  | [], [] => sNx
  | f :: fs, d :: ds => sSeq (f d) (gAll fs ds)
  | _, _ => fun _ _ => none
def gTupS (n : Nat) (fs : List (D → MS)) (v : D) : MS := match v with
  | .tup ds => if ds.length = n then gAll fs ds else fun _ _ => none
  | _ => fun _ _ => none
def sAsgS (me : MM D) (f : D → MS) : MS := sEx me f
section
variable {X : Cx} {E : XK} {e o i tg : Expr} {es : List Expr} {me mo mi : MM D} {pos : Pos} {f : D → MS} {fs : List (D → MS)}
theorem gs_sub (ho : DE X E o mo) (hi : DE X E i mi) (hg : ∀ {to ti : TE}, PE X o to → PE X i ti → PG X (.Subscript o i pos) (gSub to ti rSetL)) : PG X (.Subscript o i pos) (tGS X.K E (gPut mo mi)) :=
  pg_imp (hg ho hi) fun v σ H R ⟨en, st, φ, d, hv, sat⟩ => ⟨en, st, φ, sat.ex'.imp fun st2 da φ2 H2 _ _ ⟨k2, r2, g2⟩ a ha => ⟨en, st2, φ2, g2.ex'.imp fun st3 di φ3 H3 _ _ ⟨k3, r3, re, rs, c, en', st', e, q⟩ i hi => by
      cases da with
      | mu l =>
        cases di with
        | int k =>
          cases e2 : st3[l]? with
          | none => simp only [e2] at e; cases e
          | some ds =>
            simp only [e2] at e
            replace e : (ixN ds.length k).map (fun j => (Ctl.nx, en, st3.set l (ds.set j d))) = some (c, en', st') := e
            cases e3 : ixN ds.length k with
            | none => rw [e3] at e; cases e
            | some j =>
              rw [e3] at e; cases e
              obtain ⟨p, rfl, hp⟩ := (ha.mono k3).mutI
              cases hi
              obtain ⟨ws, g3, g4⟩ := r3.get l p ds hp e2
              refine ⟨p, ws, k, j, rfl, rfl, g3, by rw [g4.length]; exact e3, ?_⟩
              obtain ⟨kx, rr⟩ := put_lst (xs := ws.set j v) (ds := ds.set j d) r3 hp (g4.set ((hv.mono k2).mono k3) j)
              exact q φ3 _ kx rr σ (re.mono kx)
        | _ => cases e
      | _ => cases e⟩⟩
theorem gs_nil : PGs X [] (tGsS X.K E (gAll [])) :=
  pgs_imp pgs_nil fun ws σ H R ⟨en, st, φ, ds, hv, re, rs, c, en', st', e, q⟩ => by
    cases ds with
    | nil => cases e; exact ⟨hv.nilI, q φ H .refl rs σ re⟩
    | cons d ds => cases e
theorem gs_cons (h1 : PG X e (tGS X.K E f)) (h2 : PGs X es (tGsS X.K E (gAll fs))) (h : (assignEach (e :: es) X.env).map (·.2) = assign e X.env :: (assignEach es X.env).map (·.2)) : PGs X (e :: es) (tGsS X.K E (gAll (f :: fs))) :=
  pgs_imp (pgs_cons h1 h2 h) fun ws σ H R ⟨en, st, φ, ds, hv, re, rs, c, en', st', e, q⟩ => by
    cases hv with
    | nil => cases e
    | @cons v vs d ds a b =>
      replace e : sSeq (f d) (gAll fs ds) en st = some (c, en', st') := e
      refine ⟨v, vs, rfl, en, st, φ, d, a, re, rs, ?_⟩
      unfold sSeq at e
      split at e
      · rename_i en1 st1 he
        refine ⟨.nx, en1, st1, he, fun φ' H' kx rs' σ1 re1 => ⟨en1, st1, φ', ds, b.mono kx, re1, rs', c, en', st', e, fun φ2 H2 kx2 rs2 => q φ2 H2 (kx.trans kx2) rs2⟩⟩
      · rename_i oo he
        refine ⟨c, en', st', e, fun φ' H' kx rs' => ?_⟩
        have z := q φ' H' kx rs'
        cases c with
        | nx => exact (he _ _ e).elim
        | rt d => exact z
        | er c => exact z
theorem gs_tup {k n : Nat} (hc : X.calm = true) (h : PGs X es (tGsS X.K E (gAll fs))) (hn : (assignEach es X.env).length = n) (hst : (assignEach es X.env).findIdx? (·.1) = none) : PG X (.Tuple es k pos) (tGS X.K E (gTupS n fs)) :=
  pg_imp (pg_tup hc h hn hst) fun v σ H R ⟨en, st, φ, d, hv, re, rs, c, en', st', e, q⟩ => by
    cases d with
    | tup ds =>
      replace e : (if ds.length = n then gAll fs ds else fun _ _ => none) en st = some (c, en', st') := e
      by_cases hl : ds.length = n
      · rw [if_pos hl] at e
        obtain ⟨a, ws, rfl, h1, h2⟩ := hv.tupI
        exact ⟨a, ws, rfl, h1, by rw [h2.length]; exact hl, en, st, φ, ds, h2, re, rs, c, en', st', e, q⟩
      · rw [if_neg hl] at e; cases e
    | _ => cases e
theorem ds_asgS (he : DE X E e me) (hg : PG X tg (tGS X.K E f)) (hs : swapsWithSole [tg] e pos.line X.env = pure false) (hw : swappedStores [tg] e X.env = pure none) (h1 : (assignEach [tg] X.env).map (·.2) = [assign tg X.env])
    (hc : ∀ d en st c en' st', f d en st = some (c, en', st') → ∀ x, c ≠ .rt x) : DS1 X E (.Assign [tg] e pos) (sAsgS me f) :=
  ps_imp (ps_asg he hg hs hw h1) fun D σ H ⟨en, st, φ, g⟩ => ⟨en, st, φ, g.ex'.imp fun st1 d φ1 H1 _ _ ⟨k1, r1, re, rs, c, en', st', e, q⟩ v hv => ⟨en, st1, φ1, d, hv, re, rs, c, en', st', e, fun φ' H' kx rs' => by
    have z := q φ' H' kx rs'
    cases c with
    | nx => exact z
    | rt x => exact absurd rfl (hc _ _ _ _ _ _ e x)
    | er c => exact z⟩⟩
theorem seq_nort {a b : MS} (ha : ∀ en st c en' st', a en st = some (c, en', st') → ∀ x, c ≠ .rt x) (hb : ∀ en st c en' st', b en st = some (c, en', st') → ∀ x, c ≠ .rt x) : ∀ en st c en' st', sSeq a b en st = some (c, en', st') → ∀ x, c ≠ .rt x := by
  intro en st c en' st' e x
  unfold sSeq at e
  split at e
  · exact hb _ _ _ _ _ e x
  · exact ha _ _ _ _ _ e x
abbrev NoRt (m : MS) : Prop := ∀ en st c en' st', m en st = some (c, en', st') → ∀ x, c ≠ .rt x
theorem ex_nort {α : Type} {m : MM α} {k : α → MS} (h : ∀ a, NoRt (k a)) : NoRt (sEx m k) := by
  intro en st c en' st' e x
  unfold sEx at e
  split at e
  · cases e
  · cases e; intro z; cases z
  · exact h _ _ _ _ _ _ e x
theorem put_nort {mo mi : MM D} (v : D) : NoRt (gPut mo mi v) := ex_nort fun a => ex_nort fun i => by
  intro en st c en' st' e x
  cases a with
  | mu l =>
    cases i with
    | int k =>
      replace e : (st[l]?).bind (fun ds => (ixN ds.length k).map fun j => (Ctl.nx, en, st.set l (ds.set j v))) = some (c, en', st') := e
      cases e2 : st[l]? with
      | none => rw [e2] at e; cases e
      | some ds =>
        rw [e2, Option.bind_some] at e
        cases e3 : ixN ds.length k with
        | none => rw [e3] at e; cases e
        | some j => rw [e3] at e; cases e; intro z; cases z
    | _ => cases e
  | _ => cases e
theorem all_nort : ∀ {fs : List (D → MS)} {ds : List D}, (∀ f ∈ fs, ∀ d en st c en' st', f d en st = some (c, en', st') → ∀ x, c ≠ .rt x) → ∀ en st c en' st', gAll fs ds en st = some (c, en', st') → ∀ x, c ≠ .rt x
  | [], [], _ => fun en st c en' st' e x => by cases e; intro z; cases z
  | [], _ :: _, _ => fun en st c en' st' e x => by cases e
  | _ :: _, [], _ => fun en st c en' st' e x => by cases e
  | f :: fs, d :: ds, h => seq_nort (h f List.mem_cons_self d) (all_nort fun g hg => h g (List.mem_cons_of_mem _ hg))
theorem tup_nort {n : Nat} {fs : List (D → MS)} (h : ∀ f ∈ fs, ∀ d en st c en' st', f d en st = some (c, en', st') → ∀ x, c ≠ .rt x) : ∀ d en st c en' st', gTupS n fs d en st = some (c, en', st') → ∀ x, c ≠ .rt x := by
  intro d en st c en' st' e x
  unfold gTupS at e
  split at e
  · split at e
    · exact all_nort h _ _ _ _ _ e x
    · cases e
  · cases e
/-! a list is unpacked -/
def gName' (i : Nat) (v : D) : MS := fun en st => (setN i v en).map fun en' => (.nx, en', st)
def gLstS (n : Nat) (fs : List (D → MS)) (v : D) : MS := fun en st => match v with
  | .mu l => match st[l]? with
    | some ds => if ds.length = n then gAll fs ds en st else none
    | none => none
  | _ => none
theorem gs_name {j : Nat} {x : Str} (hN : X.N.Nodup) (hi : X.N[j]? = some x) (hx : Loc X.env.scope x) (hf : X.fn x = true ∨ X.env.scope.names.lookup x = some .local) : PG X (.Name x pos) (tGS X.K E (gName' j)) :=
  pg_imp (pg_name hN hi hx hf) fun v σ H R ⟨en, st, φ, d, hv, re, rs, c, en', st', e, q⟩ => by
    unfold gName' setN at e
    split at e
    · cases e
      exact q φ H .refl rs _ (re.set hv)
    · cases e
theorem gs_lst {k n : Nat} (hc : X.calm = true) (h : PGs X es (tGsS X.K E (gAll fs))) (hn : (assignEach es X.env).length = n) (hst : (assignEach es X.env).findIdx? (·.1) = none) : PG X (.Tuple es k pos) (tGS X.K E (gLstS n fs)) :=
  pg_imp (pg_unl hc h hn hst) fun v σ H R ⟨en, st, φ, d, hv, re, rs, c, en', st', e, q⟩ => by
    cases d with
    | mu l =>
      cases e2 : st[l]? with
      | none => unfold gLstS at e; simp only [e2] at e; cases e
      | some ds =>
        unfold gLstS at e
        simp only [e2] at e
        by_cases hl : ds.length = n
        · rw [if_pos hl] at e
          obtain ⟨a, rfl, ha⟩ := hv.mutI
          obtain ⟨ws, h1, h2⟩ := rs.get l a ds ha e2
          exact ⟨a, ws, rfl, .of h1, by rw [h2.length]; exact hl, en, st, φ, ds, h2, re, rs, c, en', st', e, q⟩
        · rw [if_neg hl] at e; cases e
    | _ => cases e
theorem name_nort {j : Nat} (d : D) : NoRt (gName' j d) := by
  intro en st c en' st' e x
  unfold gName' at e
  cases h : setN j d en with
  | none => rw [h] at e; cases e
  | some a => rw [h] at e; cases e; intro z; cases z
theorem lst_nort {n : Nat} {fs : List (D → MS)} (h : ∀ f ∈ fs, ∀ d, NoRt (f d)) : ∀ d, NoRt (gLstS n fs d) := by
  intro d en st c en' st' e x
  unfold gLstS at e
  split at e
  · split at e
    · split at e
      · exact all_nort (fun f hf d => h f hf d) _ _ _ _ _ e x
      · cases e
    · cases e
  · cases e
end
end M2
set_option Elab.async false
set_option linter.all false
set_option maxRecDepth 100000
set_option maxHeartbeats 4000000
namespace M2
open PySem PySem.Spec PyProof.Rows L2 StX
open Classical
variable [Tb]
/-! ### (x, *a list): a tuple of anything -/
def starT (d y : D) (st : Sto) : Option D := match y with
  | .mu l => (st[l]?).bind fun ds => if ds.length < 100000 then some (.tup (d :: ds)) else none
  | _ => none
def mStarT (m0 m1 : MM D) : MM D := bnd m0 fun d => bnd m1 fun y => stm fun st => (starT d y st).map fun z => (z, st)
theorem starT_some {d y : D} {st : Sto} {z : D} (h : starT d y st = some z) : ∃ l ds, y = .mu l ∧ st[l]? = some ds ∧ ds.length < 100000 ∧ z = .tup (d :: ds) := by
  unfold starT at h
  split at h
  · rename_i l
    cases e : st[l]? with
    | none => rw [e] at h; cases h
    | some ds =>
      rw [e, Option.bind_some] at h
      split at h
      · rename_i c
        cases h
        exact ⟨l, ds, rfl, e, c, rfl⟩
      · cases h
  · cases h
section
variable {X : Cx} {E : XK} {e e2 : Expr} {m0 m1 : MM D} {pos p : Pos}
theorem de_starT {x1 : Nat} (h0 : DE X E e m0) (h1 : DE X E e2 m1)
    (hpa : ∀ {t0 t1 : TE}, PE X e t0 → PE X e2 t1 → PA X [e, .Starred e2 p] (tCons t0 (tStar X.K t1 tNil))) : DE X E (.Tuple [e, .Starred e2 p] x1 pos) (mStarT m0 m1) :=
  pe_imp (pe_tup (hpa h0 h1)) fun σ H Q ⟨en, st, φ, g⟩ => ⟨en, st, φ, g.bind.imp fun st1 d φ1 H1 _ _ ⟨k1, r1, g1⟩ x hx => ⟨en, st1, φ1, g1.bind.imp fun st2 y φ2 H2 _ _ ⟨k2, r2, g2⟩ u hu => by
    obtain ⟨z, st3, e3, q⟩ := g2.stm
    cases e4 : starT d y st2 with
    | none => rw [e4] at e3; cases e3
    | some z' =>
      rw [e4] at e3; cases e3
      obtain ⟨l, ds, rfl, e5, hl, rfl⟩ := starT_some e4
      obtain ⟨a, rfl, ha⟩ := hu.mutI
      obtain ⟨ws, gw, vd⟩ := r2.get l a _ ha e5
      refine ⟨a, ws, rfl, .inr (.of gw), ?_⟩
      have wl := vd.length
      have vd2 : VDs X.K H2 φ2 (ws ++ []) ds := by rw [List.append_nil]; exact vd
      refine ⟨big (by simp; omega), fun p hp => ?_⟩
      obtain ⟨kx, rr⟩ := lay_tup (xs := [x] ++ (ws ++ [])) r2 hp
      refine q φ2 _ kx rr _ (.tup (vs := [x] ++ (ws ++ [])) (.of upd_same) ?_)
      exact .cons ((hx.mono k2).mono kx) (vd2.mono kx)⟩⟩
end
theorem ev_starT {m0 m1 : MM D} {d : D} {l : Nat} {ds : List D} {en : En} {s0 s1 s2 : Sto} (h0 : m0 en s0 = some (.ok d, s1)) (h1 : m1 en s1 = some (.ok (.mu l), s2)) (h : s2[l]? = some ds) (hl : ds.length < 100000) : mStarT m0 m1 en s0 = some (.ok (.tup (d :: ds)), s2) := by
  unfold mStarT
  simp only [u_bnd, h0, h1, u_stm, starT, h, Option.bind_some, if_pos hl, Option.map_some]
end M2
set_option Elab.async false
set_option linter.all false
set_option maxRecDepth 100000
set_option maxHeartbeats 4000000
namespace M2
open PySem PySem.Spec PyProof.Rows L2
variable [Tb]
section
variable {X : Cx} {E : XK}
/-! ### t * 1 of a tuple: t itself -/
theorem tuple_mul1 (l : Addr) (items : Array Value) (n : Nat) (dd : Option Addr) (sl : Array (Option Value)) (u : Tok) :
    Meets (Builtin.«tuple.__mul__» ⟨[.ref l, .int 1 u], []⟩) (fun _ R s => s.heap.get? l = some { cls := .type "tuple", dict := dd, data := .seq items n, slots := sl } ∧ R (.ok (.ret (Value.ref l))) s) :=
  .of_wp fun prog w A R s h => by
    obtain ⟨hp, g, d, tk, os⟩ := s
    obtain ⟨hl, h⟩ := h
    have f1 := AutoSeq1.idx_int
    have c1 : (items.isEmpty || (1 : Int) == 1) = true := by simp
    wp_walk using wpAny_loadPart' hl
    repeat (first
      | (refine wpAny_ite_false (decide_eq_false (by decide)) ?_; wp_walk using wpAny_loadPart' hl)
      | (refine wpAny_ite_true (decide_eq_true (by rw [c1])) ?_; wp_walk using wpAny_loadPart' hl))
    exact ⟨_, rfl, h⟩
def rTup1 (K : PySem.W.Frag) : R2 := fun x y H Q => ∃ (a : Addr) (xs : List V), x = .ref a ∧ y = .int 1 ∧ SqT K H a xs ∧ Q (.ref a) H
theorem op_tup1 : OpR X (binaryOp .Mult) (rTup1 X.K) := by
  intro pins s σ H x y v u Q I rx ry h
  obtain ⟨a, ys, rfl, rfl, hT, q⟩ := h
  cases rx
  obtain ⟨tk, rfl⟩ := ry
  obtain ⟨vals, r, ⟨⟨cl, dd, dt, sl⟩, ho, hc, n, hd⟩, hs⟩ := I.tuple hT
  simp only at hc hd
  subst hc hd
  refine wpAny_binaryOp_repeat_ref (T := "tuple") (U := "int") (by decide) ⟨_, ho, rfl⟩ (fun z => typeIs_int z 1 tk) noFill_tuple_mul F.fills_int_mul F.slot_int_rmul repeat_tuple F.slot_int_index.lookup (call_meets F.slot_int_rmul (typeIs_int s 1 tk) F.entry_int_rmul (F.args_int_rmul_2 _ _) (int_rmul_tuple 1 tk a vals.toArray n dd sl) ⟨ho, rfl, ⟨_, ho, rfl⟩, call_meets F.slot_tuple_mul ⟨_, ho, rfl⟩ F.entry_tuple_mul (F.args_tuple_mul_2 _ _) (tuple_mul1 a vals.toArray n dd sl tk) ⟨ho, ?_⟩⟩)
  exact ⟨.ref a, H, I, rfl, q⟩
def fMulB : FD2 := fun x y st => match x, y with
  | .tup xs, .int k => if k = 1 then some (.tup xs, st) else fMulA (.tup xs) (.int k) st
  | x, y => fMulA x y st
theorem op_mulU : OpR X (binaryOp .Mult) (fun x y H Q => rTup1 X.K x y H Q ∨ (rTupN X.K x y H Q ∨ rMulA x y H Q)) := op_tup1.or op_mulT
theorem opd_mulU : OpD X (fun x y H Q => rTup1 X.K x y H Q ∨ (rTupN X.K x y H Q ∨ rMulA x y H Q)) fMulB := by
  intro H φ st Q x y dx dy dz st' rs vx vy hf q
  unfold fMulB at hf
  split at hf
  · rename_i xs k
    split at hf
    · rename_i c
      subst c
      cases hf
      obtain ⟨a, ws, rfl, h1, h2⟩ := vx.tupI
      cases vy
      exact .inl ⟨a, ws, rfl, rfl, h1, q _ _ _ KX.refl rs (.tup h1 h2)⟩
    · exact .inr (opd_mulT H φ st Q _ y _ _ dz st' rs vx vy hf q)
  · exact .inr (opd_mulT H φ st Q x y _ _ dz st' rs vx vy hf q)
end
end M2
set_option Elab.async false
set_option linter.all false
set_option maxRecDepth 100000
set_option maxHeartbeats 4000000
namespace M2
open PySem PySem.Spec PyProof.Rows L2
variable [Tb]
/-! ### repr of a pair with dicts in it -/
def CmpOk (K : PySem.W.Frag) (H : Hp) (v : V) (p : PyData) : Prop :=
  (Dp K H v p ∧ flatP p = true) ∨ ∃ (a : Addr) (kws : List (Key × V)) (ps : List PyData), v = .ref a ∧ H a = some (.dK kws) ∧ DpAll K H (kws.map (·.2)) ps ∧ flatPs ps = true ∧ p = dicP (kws.map (·.1)) ps
def rReprPair (K : PySem.W.Frag) : List V → Hp → VK → Prop := fun xs H Q => ∃ (a : Addr) (v1 v2 : V) (p1 p2 : PyData), xs = [.ref a] ∧ SqT K H a [v1, v2] ∧ CmpOk K H v1 p1 ∧ CmpOk K H v2 p2 ∧
  (PyData.tuple [p1, p2]).depth ≤ 64 ∧ (PyData.tuple [p1, p2]).showable = true ∧ (PyData.tuple [p1, p2]).shown.length ≤ sizeLine ∧ Q (.str (PyData.tuple [p1, p2]).shown) H
section
variable {X : Cx} {pins : List (Addr × Obj)} {σ : L2.St} {H : Hp} {s : Shared}
theorem cmp_reads (I : Inv X pins σ H s) {v : V} {p : PyData} {u : Value} (h : CmpOk X.K H v p) (r : RelV v u) : ∃ as, Reads s.heap u p as ∧ sysModules ∉ as := by
  rcases h with ⟨d, f⟩ | ⟨a, kws, ps, rfl, hk, hd, hf, rfl⟩
  · obtain ⟨as, rd⟩ := Dp.reads I p v u d r
    have := reads_flat p u as rd f
    subst this
    exact ⟨[], rd, by simp⟩
  · cases r
    obtain ⟨_, nm, kvs, kv, o, es, ep, ho, hx, hdat, _, prs, _⟩ := I.hok a _ hk
    obtain ⟨r1, as, r2⟩ := reads_entries I kws kvs es.toList ps kv prs hd
    have ae : as = [] := readsAll_flat ps _ _ r2 hf
    subst ae
    have ln : (kws.map (·.1)).length = ps.length := by
      have := dpAll_len _ _ hd
      simpa using this
    have z1 : ((((kws.map (·.1)).map keyP).zip ps).map (·.1)) = (kws.map (·.1)).map keyP := by
      rw [List.map_fst_zip]; rw [List.length_map]; omega
    have z2 : ((((kws.map (·.1)).map keyP).zip ps).map (·.2)) = ps := by
      rw [List.map_snd_zip]; rw [List.length_map]; omega
    have rd : Reads s.heap (.ref a) (dicP (kws.map (·.1)) ps) (a :: [] ++ []) := .dict ho hx.1 hdat (by rw [z1]; exact r1) (by rw [z2]; exact r2)
    exact ⟨_, rd, fun z => by simp at z; rw [z] at nm; simp at nm⟩
theorem call_reprPair (hgd : X.A.guards = some []) (hu : X.A.units + 66 < cLine) : CallR X (.builtin "repr") (rReprPair X.K) := by
  intro pins s σ H xs us Q I r h
  obtain ⟨a, v1, v2, p1, p2, rfl, hT, h1, h2, hdp, hs, hz, q⟩ := h
  obtain ⟨u, rfl, ru⟩ := vals1 r
  cases ru
  obtain ⟨vals, rr, ⟨⟨cl, dd, dt, sl⟩, ho, hc, n, hd⟩, hsz⟩ := I.tuple hT
  simp only at hc hd
  subst hc hd
  obtain ⟨w1, w2, rfl, r1, r2⟩ := rr.two
  obtain ⟨as, ra, na⟩ := cmp_reads I h1 r1
  obtain ⟨bs, rb, nb⟩ := cmp_reads I h2 r2
  have rd : Reads s.heap (.ref a) (.tuple [p1, p2]) (as ++ (bs ++ [])) := .tuple ho rfl rfl (.cons ra (.cons rb .nil))
  exact repr_of_reads' rd hs (fun _ z => by
    rcases List.mem_append.mp z with z | z
    · exact na z
    · exact nb (by simpa using z)) hgd (by omega) (fun _ _ e => e) (fun h' t tk hk => ⟨.str _, H, I.kept hk, ⟨_, rfl⟩, q⟩) hz
end
section
variable {X : Cx} {E : XK}
/-- the data of a part -/
def cmpD (st : Sto) : D → Option PyData
  | .dic kvs => (datL st 61 (kvs.map (·.2))).bind fun ps => if flatPs ps = true then some (dicP (kvs.map (·.1)) ps) else none
  | d => (dat st 63 d).bind fun p => if flatP p = true then some p else none
def isDic : D → Bool
  | .dic _ => true
  | _ => false
def fReprP : FDB := fun ds st => match ds with
  | [.tup [x, y]] => if (isDic x || isDic y) = true then (cmpD st x).bind fun p => (cmpD st y).bind fun q => if (PyData.tuple [p, q]).showable = true ∧ (PyData.tuple [p, q]).shown.length ≤ sizeLine then some (.str (PyData.tuple [p, q]).shown, st) else none else fReprA [.tup [x, y]] st
  | ds => fReprA ds st
theorem cmp_ok {H : Hp} {φ : List Addr} {st : Sto} (rs : RS X.K H φ st) {d : D} {v : V} {p : PyData} (h : VD X.K H φ v d) (e : cmpD st d = some p) : CmpOk X.K H v p ∧ p.depth ≤ 63 := by
  have go : ∀ d, VD X.K H φ v d → ((dat st 63 d).bind fun p => if flatP p = true then some p else none) = some p → CmpOk X.K H v p ∧ p.depth ≤ 63 := fun d h e => by
    cases e1 : dat st 63 d with
    | none => rw [e1] at e; cases e
    | some q =>
      rw [e1] at e
      replace e : (if flatP q = true then some q else none) = some p := e
      split at e
      · rename_i c
        cases e
        obtain ⟨a1, a2⟩ := dat_dp rs 63 d v p h e1
        exact ⟨.inl ⟨a1, c⟩, a2⟩
      · cases e
  cases d with
  | dic kvs =>
    replace e : ((datL st 61 (kvs.map (·.2))).bind fun ps => if flatPs ps = true then some (dicP (kvs.map (·.1)) ps) else none) = some p := e
    cases e1 : datL st 61 (kvs.map (·.2)) with
    | none => rw [e1] at e; cases e
    | some ps =>
      rw [e1] at e
      replace e : (if flatPs ps = true then some (dicP (kvs.map (·.1)) ps) else none) = some p := e
      split at e
      · rename_i c
        cases e
        cases h with
        | @dic a kws _ h1 h2 h3 =>
          obtain ⟨a1, a2⟩ := datL_dp rs 61 _ _ ps h3 e1
          have dz := depth_zip (kvs.map (·.1)) ps
          refine ⟨.inr ⟨a, kws, ps, rfl, h1, a1, c, by rw [h2]⟩, ?_⟩
          unfold dicP
          simp only [PyData.depth]
          omega
      · cases e
  | _ => exact go _ h e
theorem cal_reprP : CalD X (fun xs H Q => rReprPair X.K xs H Q ∨ (rReprDic X.K xs H Q ∨ rRepr X.K xs H Q)) fReprP := by
  intro H φ st Q vs ds dz st' rs hv hf q
  unfold fReprP at hf
  split at hf
  · rename_i x y
    split at hf
    · cases e1 : cmpD st x with
      | none => rw [e1] at hf; cases hf
      | some p =>
        rw [e1, Option.bind_some] at hf
        cases e2 : cmpD st y with
        | none => rw [e2] at hf; cases hf
        | some r =>
          rw [e2, Option.bind_some] at hf
          split at hf
          · rename_i c
            cases hf
            obtain ⟨v, rfl, h⟩ := hv.one
            obtain ⟨a, ws, rfl, h1, h2⟩ := h.tupI
            obtain ⟨w1, w2, rfl, g1, g2⟩ := h2.two
            obtain ⟨k1, m1⟩ := cmp_ok rs g1 e1
            obtain ⟨k2, m2⟩ := cmp_ok rs g2 e2
            refine .inl ⟨a, w1, w2, p, r, rfl, h1, k1, k2, ?_, c.1, c.2, q _ φ H .refl rs .str⟩
            simp only [PyData.depth, PyData.depthAll]
            omega
          · cases hf
    · exact .inr (cal_reprA H φ st Q vs _ dz st' rs hv hf q)
  · exact .inr (cal_reprA H φ st Q vs _ dz st' rs hv hf q)
theorem call_reprP (hgd : X.A.guards = some []) (hu : X.A.units + 66 < cLine) : CallR X (.builtin "repr") (fun xs H Q => rReprPair X.K xs H Q ∨ (rReprDic X.K xs H Q ∨ rRepr X.K xs H Q)) := fun pins s σ H xs us Q I r h =>
  h.elim (call_reprPair hgd hu pins s σ H xs us Q I r) (call_reprA hgd hu pins s σ H xs us Q I r)
end
end M2
set_option Elab.async false
set_option linter.all false
set_option maxRecDepth 100000
set_option maxHeartbeats 4000000
namespace M2
open PySem PySem.Spec PyProof.Rows L2
variable [Tb]
section
variable {X : Cx} {E : XK} {a : Expr} {m : MM D}
/-! ### list(range(n)) -/
def fLrng (d : D) : Sto → Option (D × Sto) := fun st => match d with
  | .int n => if 0 ≤ n ∧ n ≤ 1000 then some (.mu st.length, st ++ [(List.range n.toNat).map fun (i : Nat) => D.int (i : Int)]) else none
  | _ => none
def mLrng (m : MM D) : MM D := bnd m fun d => stm (fLrng d)
theorem de_lrng {p1 p2 q1 q2 : Pos} (hc : X.calm = true) (hg : Gl X "list") (hm : X.mg "list" = none) (hg2 : Gl X "range") (hm2 : X.mg "range" = none) (ha : DE X E a m) (na : starEach [a] X.env = (false, eval a X.env) :: starEach [] X.env := by rfl) (na2 : starEach [.Call (.Name "range" p1) [a] [] p2] X.env = (false, eval (.Call (.Name "range" p1) [a] [] p2) X.env) :: starEach [] X.env := by rfl) :
    DE X E (.Call (.Name "list" q1) [.Call (.Name "range" p1) [a] [] p2] [] q2) (mLrng m) :=
  pe_imp (pe_listRg hc hg hm (prg_1 hg2 hm2 ha na) na2) fun σ H Q ⟨en, st, φ, g⟩ => ⟨en, st, φ, g.bind.imp fun st1 d φ1 H1 _ _ ⟨k1, r1, g1⟩ v hv => by
    obtain ⟨z, st2, e, q⟩ := g1.stm
    unfold fLrng at e
    split at e
    · rename_i n _
      split at e
      · rename_i c
        cases e
        cases hv
        refine ⟨n, rfl, .of_le (by decide) (by omega) (by decide) c.1, fun b hb => ?_⟩
        have er : rgV 0 n = ((List.range n.toNat).map fun (i : Nat) => (i : Int)).map V.int := by
          unfold rgV
          rw [List.map_map, Int.sub_zero]
          exact List.map_congr_left fun i _ => by show V.int (0 + (i : Int)) = V.int (i : Int); rw [Int.zero_add]
        have ed : ((List.range n.toNat).map fun (i : Nat) => D.int (i : Int)) = ((List.range n.toNat).map fun (i : Nat) => (i : Int)).map D.int := by rw [List.map_map]; rfl
        rw [er]
        rw [ed] at q
        obtain ⟨kx, r⟩ := lay_lst (xs := ((List.range n.toNat).map fun (i : Nat) => (i : Int)).map V.int) (ds := ((List.range n.toNat).map fun (i : Nat) => (i : Int)).map D.int) r1 hb (vds_ints _)
        exact q _ _ kx r _ (.mu (by rw [← r1.len, List.getElem?_append_right (Nat.le_refl _)]; simp) ⟨_, upd_same⟩)
      · cases e
    · cases e⟩
end
end M2
set_option Elab.async false
set_option linter.all false
set_option maxRecDepth 100000
set_option maxHeartbeats 4000000
namespace M2
open PySem PySem.Spec PyProof.Rows L2
open Classical
variable [Tb]
/-! ### raise of an exception whose making stores two fields -/
def sRaiseX (x f1 f2 : Str) (ms : MM (List D)) : MS := sEx ms fun ds => fun en st => match ds with
  | [.int i, .int j] => some (.er ⟨x, [(f2, j), (f1, i)]⟩, en, st)
  | _ => none
theorem ds_raiseX {X : Cx} {E : XK} {k : Nat} {x f1 f2 : Str} {e1 e2 : Expr} {ms : List (MM D)} {p pos pos2 : Pos} (hc : X.calm = true) (tk : Takes X fun cls d _ H => E cls d H) (M : Mk2 X.prog X.w X.K X.mg X.base k x f1 f2) (room : Room (k + 1) X.A) (hx : Passes L2.CX0 X (fun _ _ _ => False)) (hg : Gl X x) (ha : DA X E [e1, e2] (mArgs ms))
    (hdb : (x == ("__debug__" : Str)) = false) (he : starEach [e1, e2] X.env = (false, eval e1 X.env) :: starEach [e2] X.env) (hpl : (backTo pos (starEach [e2] X.env)).any (·.1) = false) :
    DS1 X E (.Raise (some (.Call (.Name x p) [e1, e2] [] pos)) none pos2) (sRaiseX x f1 f2 (mArgs ms)) := by
  obtain ⟨fI, fd, p1, p2, p3, iC, tI, F1, hb, _⟩ := M.ex
  refine ps_imp (ps_raise hc tk (pmk_oex (dvs := []) (ds := []) M.n.o iC tI F1 room hb .nil hx hg M.g ha hdb he hpl)) fun D σ H ⟨en, st, φ, g⟩ => ?_
  refine ⟨en, st, φ, g.ex'.imp fun st1 ds φ1 H1 _ rs1 ⟨k1, r1, re, rs, c, en', st', e, q⟩ vs hv => ?_⟩
  split at e
  · rename_i i j _
    cases e
    obtain ⟨v1, v2, rfl, h1, h2⟩ := hv.two
    cases h1
    cases h2
    refine ⟨by show 2 ≤ 1000; omega, fun a hna => ⟨a, .int i, .int j, rfl, upd_same, fun d hd hda => ⟨rfl, d, [(f2, V.int j), (f1, V.int i)], ?_, upd_same, ?_, ?_⟩⟩⟩
    · rw [upd_ne (Ne.symm hda)]; exact upd_same
    · rwa [upd_ne hda] at hd
    · have hd1 : H1 d = none := by rwa [upd_ne hda] at hd
      obtain ⟨H3, hH3⟩ : ∃ H3, H3 = upd (del (upd (upd (upd (upd H1 a (exo a (clsA X.K x) none)) d (exd d [(f1, V.int i)])) a (exo a (clsA X.K x) (some d))) d (exd d [(f2, V.int j), (f1, V.int i)])) a) d (.xd [(f2, V.int j), (f1, V.int i)]) := ⟨_, rfl⟩
      rw [← hH3]
      have at3 : ∀ b, b ≠ a → b ≠ d → H3 b = H1 b := fun b b1 b2 => by
        rw [hH3, upd_ne b2, del_ne b1, upd_ne b2, upd_ne b1, upd_ne b2, upd_ne b1]
      have same : HKp H1 H3 := fun b o h _ => by rw [at3 b (ne_of_none h hna) (ne_of_none h hd1)]; exact h
      have tb : LamX.Tabs Tb.T H3 := rs1.tabs.ext fun b o h => by rw [at3 b (ne_of_none h hna) (ne_of_none h hd1)]; exact h
      have f := q φ1 H3 (same.kx φ1) (rs1.kp same tb)
      exact f d (by rw [hH3]; exact upd_same)
  · cases e
end M2
set_option Elab.async false
set_option linter.all false
set_option maxRecDepth 100000
set_option maxHeartbeats 4000000
namespace M2
open PySem PySem.Spec PyProof.Rows L2
open Classical
variable [Tb]
/-! ### isinstance of a caught exception that has fields -/
/-- what the module says of a class whose instances are told with their fields -/
def kndYB (K : PySem.W.Frag) (n : Str) : Bool :=
  excB K (clsA K n) && (clsNames.all (fun m => decide (PySem.W.kitOne K (.ref (clsA K n)) (.ref (clsA K m)) = some (isaX n m))) && (decide (PySem.W.kitOne K (.ref (clsA K n)) (.type "ValueError") = some true) &&
  decide (PySem.W.exmOne K (.ref (clsA K n)) (.ref (clsA K "PickError")) = some true)))
structure KndY (K : PySem.W.Frag) (n : Str) : Prop where
  e : ExcC K (clsA K n)
  k : ∀ m, clsNames.contains m = true → PySem.W.kitOne K (.ref (clsA K n)) (.ref (clsA K m)) = some (isaX n m)
  v : PySem.W.kitOne K (.ref (clsA K n)) (.type "ValueError") = some true
  p : PySem.W.exmOne K (.ref (clsA K n)) (.ref (clsA K "PickError")) = some true
theorem kndY_of {K : PySem.W.Frag} {n : Str} (h : kndYB K n = true) : KndY K n := by
  simp only [kndYB, Bool.and_eq_true, decide_eq_true_eq] at h
  obtain ⟨h1, h2, h3, h4⟩ := h
  exact ⟨excB_ok h1, fun m hm => of_decide_eq_true (List.all_eq_true.mp h2 m (List.contains_iff_mem.mp hm)), h3, h4⟩
section
variable {X : Cx} {E : XK}
def rIsD (K : PySem.W.Frag) (D a dd : Addr) : List V → Hp → VK → Prop := fun xs H Q => ∃ (c : V) (cv : Value) (b : Bool) (fs : List (Str × V)), xs = [.ref a, c] ∧ H dd = some (.xd fs) ∧ (∀ u, RelV c u → u = cv) ∧ PySem.W.kitOne K (.ref D) cv = some b ∧ Q (.bl b) H
theorem call_isPx {p : Addr × Obj} {D dd : Addr} (hp : p ∈ X.pn) (C : ExcC X.K D) (hz : Zc (.ref D) (some dd) p.2) (hf : ∃ vs, p.2.data = .fields vs) : CallR X (.builtin "isinstance") (rIsD X.K D p.1 dd) := by
  rintro pins s σ H xs us Q I r ⟨c, cv, b, fs, rfl, hd, hcv, e, q⟩
  obtain ⟨u1, u2, rfl, r1, r2⟩ := r.two
  cases r1
  obtain rfl := hcv _ r2
  have P1 := I.pin p (List.mem_append.mpr (.inl hp))
  have hx : ObjOk X.prog X.w H s.heap dd (.xd fs) := I.hok dd _ hd
  obtain ⟨mA, hns, hr⟩ := hx
  obtain ⟨od, ho, hl⟩ := lookIn_ns hns
  obtain ⟨vs, hv⟩ := hf
  have J : PySem.W.InstAt s.heap p.1 p.2 D (some od) := ⟨P1.1, hz.1, by unfold PySem.W.notCls; rw [hv] <;> rfl, by rw [hz.2]; exact ho⟩
  obtain ⟨cd, hc, _⟩ := PySem.W.any_some C.hd
  exact PySem.W.kia_one (PySem.W.kitx_exc (by rw [hc]; rfl) C.hg C.hk C.hs C.ha C.hn C.ht C.hm) I.kIn J e (fun z => nomatch z) fun t => ⟨.bl b, H, I.kept (t' := t) fun _ _ z => z, rfl, q⟩
end
def fIsXD (a dd : Addr) (n : Str) : FDB := fun ds st => match ds with
  | [.cxd b d _, .cln m] => if b = a ∧ d = dd ∧ clsNames.contains m = true then some (.bl (isaX n m), st) else none
  | [.cxd b d _, .ty t] => if b = a ∧ d = dd ∧ t = "ValueError" then some (.bl true, st) else none
  | _ => none
@[simp] theorem u_isXD (a dd : Addr) (fs : List (Str × Int)) (n m : Str) (st : Sto) : fIsXD a dd n [.cxd a dd fs, .cln m] st = if clsNames.contains m = true then some (.bl (isaX n m), st) else none := by simp [fIsXD]
@[simp] theorem u_isVD (a dd : Addr) (fs : List (Str × Int)) (n : Str) (st : Sto) : fIsXD a dd n [.cxd a dd fs, .ty "ValueError"] st = some (.bl true, st) := by simp [fIsXD]
section
variable {X : Cx} {E : XK}
theorem cal_isXD {a dd : Addr} {n : Str} (I : KndY X.K n) : CalD X (rIsD X.K (clsA X.K n) a dd) (fIsXD a dd n) := by
  intro H φ st Q vs ds dz st' rs hv hf q
  unfold fIsXD at hf
  split at hf
  · rename_i b d fs m
    split at hf
    · rename_i c
      cases hf
      obtain ⟨v, u, rfl, h1, h2⟩ := hv.two
      obtain ⟨rfl, rfl, c2⟩ := c
      cases h2
      cases h1 with
      | cxd h1 => exact ⟨_, .ref (clsA X.K m), _, _, rfl, h1, fun u hu => hu, I.k m c2, q _ φ H .refl rs .bl⟩
    · cases hf
  · rename_i b d fs t
    split at hf
    · rename_i c
      cases hf
      obtain ⟨v, u, rfl, h1, h2⟩ := hv.two
      obtain ⟨rfl, rfl, rfl⟩ := c
      cases h2
      cases h1 with
      | cxd h1 => exact ⟨_, .type "ValueError", _, _, rfl, h1, fun u hu => hu, I.v, q _ φ H .refl rs .bl⟩
    · cases hf
  · cases hf
end
/-! ### its word -/
def spKX (K : PySem.W.Frag) (kw : List (Str × Str)) : Addr × Obj → Sp := fun p vs H Q _ => ∃ n wd dd, ∃ fs : List (Str × Int), (n, wd) ∈ kw ∧ Zc (.ref (clsA K n)) (some dd) p.2 ∧ (∃ us, p.2.data = .fields us) ∧ vs = [.ref p.1] ∧ H dd = some (.xd (fs.map fun p => (p.1, V.int p.2))) ∧ LamX.Tabs Tb.T H ∧ ∀ H', HKp H H' → LamX.Tabs Tb.T H' → Q (.str wd) H'
theorem fnk_kindX {P : Program} {w : World} {K : PySem.W.Frag} {mg : Str → Option Value} {base : Heap} {k : Nat} {f : Addr} {x q px : Str} {st : Stmt} {fd : FuncData} {N : List Str} {kw : List (Str × Str)} (bk : Addr → Addr → Str → MS) (F : Fun K x q st f fd) (S : FnScope N [px] (defScope st))
    (ev : ∀ n wd, (n, wd) ∈ kw → ∀ a dd fs, ∃ st', runF N.length (bk a dd n) [.cxd a dd fs] [] = some (.ok (.str wd), st'))
    (body : ∀ n wd, (n, wd) ∈ kw → ∀ (cd : Value) (A : Around) (ou : List Env) (s : Shared) (H : Hp) (p : Addr × Obj) (dd : Addr), A.guards = some [] → L2H.RoomH k (A.deeper (envOfC q (defScope st) s.heap.objs.size f cd)) → Zc (.ref (clsA K n)) (some dd) p.2 → (∃ us, p.2.data = .fields us) →
      DSs (L2H.cxH (L2.CX P w) P w K mg base N q (defScope st) f cd A ou s H noE p) noE (defBody st) (bk p.1 dd n)) :
    FnK P w K mg base (k + 1) f fd [px] (spKX K kw) := by
  refine fnk_of F S fun cd A ou s H vs Q p hgd hr want => ?_
  obtain ⟨n, wd, dd, fs, hn, hz, hf, rfl, hx, ht, q⟩ := want
  refine ⟨_, body n wd hn cd A ou s H p dd hgd hr hz hf, ?_⟩
  obtain ⟨st', e⟩ := ev n wd hn p.1 dd fs
  unfold runF at e
  cases hm : bk p.1 dd n (envOf N.length [.cxd p.1 dd fs]) [] with
  | none => rw [hm] at e; cases e
  | some r =>
    obtain ⟨c, en', st2⟩ := r
    rw [hm] at e
    refine ⟨_, [], [], re_start (.cons (.cxd hx) .nil), rs_nil ht, c, en', st2, hm, fun φ' H' kx rs' => ?_⟩
    cases c with
    | nx => cases e
    | rt d => cases e; exact fun v vd => by cases vd; exact q H' (.of kx) rs'.tabs
    | er c => cases e
def mKndX (a dd : Addr) (wd : Str) (m : MM (List D)) : MM D := bnd m fun ds => match ds with
  | [.cxd b d _] => if b = a ∧ d = dd then ret (.str wd) else lft none
  | _ => lft none
section
variable {X : Cx} {E : XK}
theorem de_kindX {k : Nat} {kw : List (Str × Str)} {f : Addr} {fd : FuncData} {x px : Str} {a dd : Addr} {oe : Obj} {n wd : Str} {e : Expr} {me : MM D} {q pos : Pos} (hp : (a, oe) ∈ X.pn) (F : FnK X.prog X.w X.K X.mg X.base k f fd [px] (spKX X.K kw)) (gd : X.A.guards = some []) (hr : L2H.RoomH k X.A)
    (hg : Gl X x) (hm : X.mg x = some (.ref f)) (hk : PySem.W.keepIn X.K (.ref f) = true) (hb : Binds X.K fd [px] []) (hn : (n, wd) ∈ kw) (hz : Zc (.ref (clsA X.K n)) (some dd) oe) (hf : ∃ us, oe.data = .fields us) (he : DE X E e me)
    (hdb : (x == ("__debug__" : Str)) = false) (hs : starEach [e] X.env = (false, eval e X.env) :: starEach [] X.env) : DE X E (.Call (.Name x q) [e] [] pos) (mKndX a dd wd (mArgs [me])) :=
  pe_imp (pe_callX hp F gd hr hg hm hk hb (da_cons he da_nil hs) hdb hs rfl) fun σ H Q ⟨en, st, φ, g⟩ => ⟨en, st, φ, g.bind.imp fun st1 ds φ1 H1 _ _ ⟨k1, r1, g1⟩ vs hv => by
    split at g1
    · rename_i b d fs _
      by_cases c : b = a ∧ d = dd
      · rw [if_pos c] at g1
        obtain ⟨rfl, rfl⟩ := c
        obtain ⟨v, rfl, hv1⟩ := hv.one
        cases hv1 with
        | cxd hx =>
          obtain ⟨re, rs, r, st', em, q⟩ := g1
          cases em
          exact ⟨rfl, n, wd, _, fs, hn, hz, hf, rfl, hx, r1.tabs, fun H' kp t => q φ1 H' (kp.kx φ1) (r1.kp kp t) _ .str⟩
      · rw [if_neg c] at g1
        exact absurd g1.lft (fun ⟨_, z, _⟩ => by cases z)
    · exact absurd g1.lft (fun ⟨_, z, _⟩ => by cases z)⟩
/-- a field of it -/
def mXfD (a dd : Addr) (f : Str) (m : MM D) : MM D := bnd m fun d => match d with
  | .cxd b e fs => if b = a ∧ e = dd then lft ((fs.lookup f).map D.int) else lft none
  | _ => lft none
theorem de_xfD {a dd : Addr} {oe : Obj} {C : Addr} {pn : List (Addr × Obj)} {e : Expr} {m : MM D} {pos : Pos} {f : Str} (T : XfC X.K C) (hno : PySem.W.findIn X.K (.ref C) f = some none) (hz : Zc (.ref C) (some dd) oe) (hf : ∃ vs, oe.data = .fields vs)
    (he : DE (X.suite a ((a, oe) :: pn)) E e m) (hb : attributeBase e f X.env (eval e X.env) = eval e X.env) : DE (X.suite a ((a, oe) :: pn)) E (.Attribute e f pos) (mXfD a dd f m) :=
  pe_imp (pe_xf T hno hz hf he hb) fun σ H Q ⟨en, st, φ, g⟩ => ⟨en, st, φ, g.bind.imp fun st1 d φ1 H1 _ _ ⟨k1, r1, g1⟩ v hv => by
    split at g1
    · rename_i b e fs _
      by_cases c : b = a ∧ e = dd
      · rw [if_pos c] at g1
        obtain ⟨rfl, rfl⟩ := c
        obtain ⟨z, hz, q⟩ := g1.lft
        cases hv with
        | cxd hx =>
          cases hl : fs.lookup f with
          | none => rw [hl] at hz; cases hz
          | some i =>
            rw [hl] at hz
            cases hz
            exact ⟨rfl, rfl, _, _, V.int i, rfl, hx, by rw [lookup_mapI, hl]; rfl, q _ .int⟩
      · rw [if_neg c] at g1
        exact absurd g1.lft (fun ⟨_, z, _⟩ => by cases z)
    · exact absurd g1.lft (fun ⟨_, z, _⟩ => by cases z)⟩
end
end M2
set_option Elab.async false
set_option linter.all false
set_option maxRecDepth 100000
set_option maxHeartbeats 4000000
namespace M2
open PySem PySem.Spec PyProof.Rows L2
variable [Tb]
/-! ### _law_said(lambda: ..), of what has fields too -/
def wMany : Str := Str.ofString "many"
def saidTX (t : Str) : Str := (Str.ofString "! " ++ wMany) ++ (Str.ofString " " ++ t)
noncomputable def bSuiteX (a dd : Addr) (wd : Str) : MS := sSeq (sAsg (mKndX a dd wd (mArgs [mVar 1])) (setN 2)) (sSeq (sRet (mOp fAddB (mOp fAddB (ret (.str (Str.ofString "! "))) (mVar 2)) (mIf (mB (mOp fEqA (mVar 2) (ret (.str (Str.ofString "many"))))) (mOp fAddB (ret (.str (Str.ofString " "))) (mBlt fReprA (mArgs [(mTup [(mXfD a dd "amount" (mVar 1)), (mXfD a dd "limit" (mVar 1))])]))) (ret (.str (Str.ofString "")))))) sNx)
theorem bSuiteX_run {f a dd : Addr} {fs : List (Str × Int)} {i j : Int} {t : Str} {st : Sto} (h1 : fs.lookup ("amount" : Str) = some i) (h2 : fs.lookup ("limit" : Str) = some j) (hr : fReprA [.tup [.int i, .int j]] st = some (.str t, st)) (ht : t.length ≤ 1000) : bSuiteX a dd wMany [some (.cls f), some (.cxd a dd fs), none] st = some (.rt (.str (saidTX t)), [some (.cls f), some (.cxd a dd fs), some (.str wMany)], st) := by
  have l2 : (Str.ofString "! ").length = 2 := by decide +kernel
  have l1 : (Str.ofString " ").length = 1 := by decide +kernel
  have l4 : (Str.ofString "many").length = 4 := by decide +kernel
  have la : (Str.ofString "! " ++ Str.ofString "many").length = 6 := by decide +kernel
  have lb : (Str.ofString " " ++ t).length = 1 + t.length := by
    show ((Str.ofString " ").cps ++ t.cps).size = _
    rw [Array.size_append]
    exact congrArg (· + t.length) l1
  have lc : 1 + t.length ≤ 100000 := by omega
  have ld : 6 + (1 + t.length) ≤ 100000 := by omega
  simp [bSuiteX, mKndX, mXfD, h1, h2, hr, fAddB, fBI, fAdd, fEqA, saidTX, wMany, l1, l2, l4, la, lb, lc, ld]
open Classical in
/-- what is told of what is raised -/
noncomputable def saidE (kw kwX : List (Str × Str)) (e : Er) (st1 : Sto) : Option (Except Er D × Sto) := match e.fs, kw.lookup e.n with
    | [], some wd => if wd.length ≤ 1000 ∧ wd ≠ Str.ofString "many" then some (.ok (.str (saidT wd)), st1) else none
    | _, _ => match e.fs.lookup ("amount" : Str), e.fs.lookup ("limit" : Str), kwX.lookup e.n with
      | some i, some j, some wd => (match fReprA [.tup [.int i, .int j]] st1 with
        | some (.str t, st2) => if t.length ≤ 1000 ∧ st2 = st1 ∧ wd = wMany then some (.ok (.str (saidTX t)), st1) else none
        | _ => none)
      | _, _, _ => none
noncomputable def mSaidX (kw kwX : List (Str × Str)) (m : MM D) : MM D := fun en st => match m en st with
  | none => none
  | some (.ok d, st1) => (fReprA [d] st1).map fun p => (.ok p.1, p.2)
  | some (.error e, st1) => saidE kw kwX e st1
structure SaidOkX (P : Program) (w : World) (K : PySem.W.Frag) (mg : Str → Option Value) (base : Heap) (k : Nat) (kw kwX : List (Str × Str)) : Prop where
  ex : ∃ (g : Addr) (sd b₀ : Stmt) (suite : List Stmt) (oc : Value) (od : Option Addr) (kV dc pm : Value) (an : Option Addr) (cdv ct : Value) (osl : Array (Option Value)) (p0 p1 p2 p3 p4 p5 p6 p7 : Pos),
    mg "_law_said" = some (.ref g) ∧ PySem.W.keepIn K (.ref g) = true ∧ K.lookup g = some ⟨oc, od, .func (PySem.W.fnOf "_law_said" "_law_said" (defArgs sd) (defBody sd) (defScope sd) .none kV dc pm an cdv ct), osl⟩ ∧ PySem.W.codeIn K cdv "_law_said" = true ∧
    Binds K (PySem.W.fnOf "_law_said" "_law_said" (defArgs sd) (defBody sd) (defScope sd) .none kV dc pm an cdv ct) ["_law_call"] [] ∧ FnScope Nsaid ["_law_call"] (defScope sd) ∧
    (defScope sd).names.lookup ("_law_call" : Str) = some .local ∧ (defScope sd).names.lookup ("_law_error" : Str) = some .local ∧ (defScope sd).names.lookup ("repr" : Str) = some .globalImplicit ∧ (defScope sd).names.lookup ("PickError" : Str) = some .globalImplicit ∧
    defBody sd = [.Try [.Return (some (.Call (.Name "repr" p0) [.Call (.Name "_law_call" p1) [] [] p2] [] p3)) p4] [.ExceptHandler (some (.Name "PickError" p5)) (some "_law_error") (b₀ :: suite) p6] [] [] p7] ∧
    (∀ (A : Around) (ou : List Env) (s : Shared) (H : Hp) (a : Addr) (oe : Obj) (n wd : Str) (pn : List (Addr × Obj)), A.guards = some [] → Room (k + 1) (A.deeper (envOfC "_law_said" (defScope sd) s.heap.objs.size g cdv)) → (n, wd) ∈ kw → Zc (.ref (clsA K n)) none oe → (∃ us, oe.data = .fields us) →
      DSs ((cxOf C8.CX0 P w K mg base Nsaid "_law_said" (defScope sd) g cdv A ou s H C8.E0).suite a ((a, oe) :: pn)) noE (b₀ :: suite) (bSuite a wd)) ∧
    ∀ (A : Around) (ou : List Env) (s : Shared) (H : Hp) (a dd : Addr) (oe : Obj) (n wd : Str) (pn : List (Addr × Obj)), A.guards = some [] → Room (k + 1) (A.deeper (envOfC "_law_said" (defScope sd) s.heap.objs.size g cdv)) → (n, wd) ∈ kwX → Zc (.ref (clsA K n)) (some dd) oe → (∃ us, oe.data = .fields us) →
      DSs ((cxOf C8.CX0 P w K mg base Nsaid "_law_said" (defScope sd) g cdv A ou s H C8.E0).suite a ((a, oe) :: pn)) noE (b₀ :: suite) (bSuiteX a dd wd)
  kn : ∀ n wd, (n, wd) ∈ kw → Knd K n
  mR : mg "repr" = none
  mP : mg "PickError" = some (.ref (clsA K "PickError"))
  kx : ∀ n wd, (n, wd) ∈ kwX → KndY K n
theorem fly_xf {K : PySem.W.Frag} {E : XK} {e : Er} {H : Hp} {f : Str} {i : Int} (h : e.fs.lookup f = some i) (q : ∀ dd, H dd = some (.xd (e.fs.map fun p => (p.1, V.int p.2))) → E (.ref (clsA K e.n)) (some dd) H) : Fly K E e H := by
  unfold Fly
  split
  · rename_i e0
    rw [e0] at h; cases h
  · exact q
/-- the suite's reading -/
def tsSX (K : PySem.W.Frag) (kw kwX : List (Str × Str)) : Addr → Value → Option Addr → TS := fun a cls d D σ H => (∃ n wd, (n, wd) ∈ kw ∧ cls = .ref (clsA K n) ∧ d = none ∧ tSM K noE (bSuite a wd) D σ H) ∨ ∃ n wd dd, (n, wd) ∈ kwX ∧ cls = .ref (clsA K n) ∧ d = some dd ∧ tSM K noE (bSuiteX a dd wd) D σ H
section
variable {X : Cx} {E : XK}
theorem de_saidX {k : Nat} {kw kwX : List (Str × Str)} {c Pt : Addr} {params : Arguments} {lb : Expr} {scope : Scope} {m : MM D} {p lpos pos : Pos} (d : SaidOkX X.prog X.w X.K X.mg X.base k kw kwX) (gd : X.A.guards = some []) (room : Room (k + 2) X.A) (hg : Gl X "_law_said")
    (TB : LamX.TabB X.base X.mg c Pt) (hcode : X.env.code = .ref c) (mT : (Pt, X.env.qual ++ "<lambda>") ∈ Tb.T) (uT : ∀ p ∈ Tb.T, p.1 = Pt → p.2 = X.env.qual ++ "<lambda>") (L : LamX.LamS X.env.scope scope) (hdef : defaultsOf params X.env = ([], []))
    (bnd0 : ∀ (q : Str) (cl : List (Str × Addr)) (pm cv ctv : Value), bindArgs (PySem.W.kla_fn "<lambda>" q params lb scope cl pm cv ctv) ⟨[], []⟩ = pure [])
    (says : ∀ (f c' : Addr) (A : Around) (ou : List Env) (s : Shared) (H : Hp) (E : XK), A.guards = some [] → Room k (A.deeper (LamX.lamEnv X scope s.heap.objs.size f c')) → DE (LamX.lamCx X A ou s H E scope f c') E lb m) :
    DE X E (.Call (.Name "_law_said" p) [.Lambda params lb scope lpos] [] pos) (mSaidX kw kwX m) := by
  obtain ⟨g, sd, b₀, suite, oc, od, kV, dc, pm, an, cdv, ct, osl, p0, p1, p2, p3, p4, p5, p6, p7, hm, hk, lk, hcg, hbn, Sg, l0, l1, lR, lP, hbd, hsu, hsx⟩ := d.ex
  refine ⟨fun pins s σ H Q I ⟨en, st, φ, re, rs, r, st', em, q⟩ => wpAny_Call_Name_kw (ld_glob I hg hm (PySem.W.callWith_K (h₀ := X.base) I.ok.mod.kin hk ?_ (by rfl) (by rfl)) (by decide))⟩
  show wpAny _ _ (spliced ((false, eval (.Lambda params lb scope lpos) X.env) :: backTo pos (starEach [] X.env))) _ _ _
  refine Calls.spliced_cons (LamX.lam_make2 I TB hcode mT uT rs.tabs hdef (L.has I.ok) fun f c' pm' ctv H1 s' I1 eN T1 isF nF noFr isC => Calls.spliced_nil ⟨I1.kIn, ?_⟩)
  have kp : HKp H H1 := fun b o e n => eN b o e n
  have k1 : KX H φ H1 φ := kp.kx φ
  have rs1 := rs.kp kp T1
  have re1 := re.mono k1
  refine wpAny_call (codeAny_mono (R := CR C8.CX0 X.stack X.prog X.w H1 s' Q C8.E0) (LamX.run_ofS (N := Nsaid) (ps := ["_law_call"]) (us := [.ref f]) (vs := [.ref f]) lk hcg Sg room I1.env0 (hbn s' [.ref f] I1.kIn rfl) (.cons rfl .nil) rfl fun hr' => ?_) fun res s2 z => ?_)
  · have hu : (X.A.deeper (envOfC "_law_said" (defScope sd) s'.heap.objs.size g cdv)).units + 66 < cLine := by have := hr'.un; omega
    rw [hbd]
    refine ⟨_, pss_one (ps_try_as (X := cxOf C8.CX0 X.prog X.w X.K X.mg X.base Nsaid "_law_said" (defScope sd) g cdv X.A X.stack s' H1 C8.E0) (c := .ref (clsA X.K "PickError")) (i := 1) (Wout := fun _ _ _ _ => False)
      (tb := fun W D σ1 H2 => σ1[0]? = some (some (.ref f)) ∧ H2 c' = some (LamX.CodeO c' (X.env.qual ++ "<lambda>")) ∧ tM X.K (fun cls d H' => W cls d σ1 H') m σ H2 (fun v H' => (rReprDic X.K [v] H' D.rt ∨ rRepr X.K [v] H' D.rt)))
      (ts := tsSX X.K kw kwX) rfl rfl Sg.nd rfl l1 ⟨lP, by decide, .inl d.mP⟩ LamX.takes0 ?_ ?_), ?_⟩
    · intro W pn xe tk _
      exact pss_imp (pss_one (ps_ret (pos := p4) (pe_callB (call_reprA gd hu) lR d.mR PyProof.Rows.boot_repr (pa_cons (act_lam (tb := fun E => tM X.K E m) (i := 0) I1 L isF nF noFr (bnd0 _ _ _ _ _) tk gd hr' (fun A ou s H E g1 g2 => says f c' A ou s H E g1 g2) rfl (.inl l0) (by decide) (by decide)) pa_nil) (by decide) (by decide) rfl rfl))) fun D σ1 H2 h => h
    · intro a oe cls d' pn hz hf
      refine ⟨fun pins s3 σ1 H2 D I3 h => ?_⟩
      rcases h with ⟨n, wd, hn, e1, e2, h⟩ | ⟨n, wd, dd, hn, e1, e2, h⟩
      · subst e1 e2
        exact (hsu X.A X.stack s' H1 a oe n wd pn gd hr' hn hz hf).run pins s3 σ1 H2 D I3 h
      · subst e1 e2
        exact (hsx X.A X.stack s' H1 a dd oe n wd pn gd hr' hn hz hf).run pins s3 σ1 H2 D I3 h
    · refine ⟨rfl, isC, ?_⟩
      unfold mSaidX at em
      cases hm0 : m en st with
      | none => rw [hm0] at em; cases em
      | some r0 =>
        obtain ⟨r0, st1⟩ := r0
        rw [hm0] at em
        refine ⟨en, st, φ, re1, rs1, r0, st1, hm0, fun φ' H' kx rs' => ?_⟩
        cases r0 with
        | ok dv =>
          replace em : (fReprA [dv] st1).map (fun p => ((Except.ok p.1 : Except Er D), p.2)) = some (r, st') := em
          cases e3 : fReprA [dv] st1 with
          | none => rw [e3] at em; cases em
          | some pr =>
            rw [e3] at em; cases em
            exact fun v hv => cal_reprA (X := X) H' φ' st1 Q [v] [dv] pr.1 pr.2 rs' (.cons hv .nil) e3 fun v2 φ2 H2 kx2 rs2 vd => q φ2 H2 (k1.trans (kx.trans kx2)) rs2 v2 vd
        | error er =>
          replace em : saidE kw kwX er st1 = some (r, st') := em
          unfold saidE at em
          split at em
          · rename_i wd hfs hlk
            split at em
            · rename_i hc
              cases em
              have hmem := lookup_mem hlk
              refine fly_of (E := fun cls d H2 => wAs X.K (.ref (clsA X.K "PickError")) 1 (tsSX X.K kw kwX) (fun _ _ _ _ => False) { nx := fun _ H' => Q .non H', rt := Q } cls d (L2.start Nsaid [.ref f]) H2) hfs ⟨true, (d.kn _ _ hmem).p, fun _ a ha => .inl ⟨er.n, wd, hmem, rfl, rfl, [some (.cls f), some (.cls a), none], st', φ', ⟨rfl, fun i dd hi => ?_⟩, rs', _, _, _, bSuite_run hc.1 hc.2, fun φ2 H2 kx2 rs2 v hv => ?_⟩, fun h => by cases h⟩
              · match i, hi with
                | 0, hi => cases hi; exact ⟨.ref f, rfl, .cls⟩
                | 1, hi => cases hi; exact ⟨.ref a, rfl, .cls⟩
                | 2, hi => cases hi
                | i + 3, hi => simp at hi
              · exact q φ2 H2 (k1.trans (kx.trans kx2)) rs2 v hv
            · cases em
          · split at em
            · rename_i i j wd h1 h2 h3
              split at em
              · rename_i t st2 hrep
                split at em
                · rename_i hc
                  cases em
                  obtain ⟨hc1, rfl, rfl⟩ := hc
                  have hmem := lookup_mem h3
                  have fl : ∀ dd, H' dd = some (.xd (er.fs.map fun p => (p.1, V.int p.2))) → wAs X.K (.ref (clsA X.K "PickError")) 1 (tsSX X.K kw kwX) (fun _ _ _ _ => False) { nx := fun _ H' => Q .non H', rt := Q } (.ref (clsA X.K er.n)) (some dd) (L2.start Nsaid [.ref f]) H' := fun dd hdd =>
                    ⟨true, (d.kx _ _ hmem).p, fun _ a ha => .inr ⟨er.n, _, dd, hmem, rfl, rfl, [some (.cls f), some (.cxd a dd er.fs), none], _, φ', ⟨rfl, fun i d hi => by
                      match i, hi with
                      | 0, hi => cases hi; exact ⟨.ref f, rfl, .cls⟩
                      | 1, hi => cases hi; exact ⟨.ref a, rfl, .cxd hdd⟩
                      | 2, hi => cases hi
                      | i + 3, hi => simp at hi⟩, rs', _, _, _, bSuiteX_run h1 h2 hrep hc1, fun φ2 H2 kx2 rs2 v hv => q φ2 H2 (k1.trans (kx.trans kx2)) rs2 v hv⟩, fun h => by cases h⟩
                  exact fly_xf (E := fun cls d H2 => wAs X.K (.ref (clsA X.K "PickError")) 1 (tsSX X.K kw kwX) (fun _ _ _ _ => False) { nx := fun _ H' => Q .non H', rt := Q } cls d (L2.start Nsaid [.ref f]) H2) h1 fl
                · cases em
              · cases em
            · cases em
  · match res, z with
    | .error e, z => exact (show False from z).elim
    | .ok (.ret u), z => exact I1.after z
end
end M2
set_option Elab.async false
set_option linter.all false
set_option maxRecDepth 100000
set_option maxHeartbeats 4000000
namespace M2
open PySem PySem.Spec PyProof.Rows L2
open Classical
variable [Tb]
theorem huMk2 {k : Nat} {A : Around} {v : Option Value} (hr : Room k A) : (A.mark v).units + 66 < cLine := by
  have := hr.un
  show A.units + 66 < cLine
  omega
theorem pass0 {X : Cx} : Passes L2.CX0 X (fun _ _ _ => False) := fun _ _ _ _ _ _ _ z => (show False from z).elim
theorem kxs_of {K : PySem.W.Frag} {kw : List (Str × Str)} (h : kw.all (fun p => kndYB K p.1) = true) : ∀ n wd, (n, wd) ∈ kw → KndY K n := fun n wd hm => kndY_of (List.all_eq_true.mp h (n, wd) hm)
noncomputable def bKindX (a dd : Addr) (n : Str) : MS :=
    (sSeq (sAsg (mLst [(mBlt (fIsXD a dd n) (mArgs [(mVar 0), (ret (.cln "NoMachine"))])), (mBlt (fIsXD a dd n) (mArgs [(mVar 0), (ret (.cln "NoArities"))])), (mBlt (fIsXD a dd n) (mArgs [(mVar 0), (ret (.cln "NoTree"))]))]) (setN 1))
    (sSeq (sAsg (mOp fAddB (mVar 1) (mLst [(mBlt (fIsXD a dd n) (mArgs [(mVar 0), (ret (.cln "Unspelled"))])), (mBlt (fIsXD a dd n) (mArgs [(mVar 0), (ret (.cln "NoOperator"))])), (mBlt (fIsXD a dd n) (mArgs [(mVar 0), (ret (.cln "NoPrices"))]))])) (setN 1))
    (sSeq (sAsg (mOp fAddB (mVar 1) (mLst [(mBlt (fIsXD a dd n) (mArgs [(mVar 0), (ret (.cln "NoStates"))])), (mBlt (fIsXD a dd n) (mArgs [(mVar 0), (ret (.cln "NoForm"))])), (mBlt (fIsXD a dd n) (mArgs [(mVar 0), (ret (.cln "NoCover"))]))])) (setN 1))
    (sSeq (sAsg (mOp fAddB (mVar 1) (mLst [(mBlt (fIsXD a dd n) (mArgs [(mVar 0), (ret (.cln "NoNumber"))])), (mBlt (fIsXD a dd n) (mArgs [(mVar 0), (ret (.cln "NoNumbers"))])), (mBlt (fIsXD a dd n) (mArgs [(mVar 0), (ret (.cln "NoPrice"))]))])) (setN 1))
    (sSeq (sAsg (mOp fAddB (mVar 1) (mLst [(mBlt (fIsXD a dd n) (mArgs [(mVar 0), (ret (.cln "ManyForms"))])), (mBlt (fIsXD a dd n) (mArgs [(mVar 0), (ret (.cln "Endless"))]))])) (setN 1))
    (sSeq (sAsg (mOp fAddB (mVar 1) (mLst [(mBlt (fIsXD a dd n) (mArgs [(mVar 0), (ret (.cln "OtherArities"))])), (mBlt (fIsXD a dd n) (mArgs [(mVar 0), (ret (.cln "NoContext"))]))])) (setN 1))
    (sSeq (sAsg (mOp fAddB (mVar 1) (mLst [(mBlt (fIsXD a dd n) (mArgs [(mVar 0), (ret (.cln "NoNodes"))])), (mBlt (fIsXD a dd n) (mArgs [(mVar 0), (ret (.cln "NoArguments"))])), (mBlt (fIsXD a dd n) (mArgs [(mVar 0), (ret (.cln "NothingRead"))]))])) (setN 1))
    (sSeq (sAsg (mOp fAddB (mVar 1) (mLst [(mBlt (fIsXD a dd n) (mArgs [(mVar 0), (ret (.cln "NothingDone"))])), (mBlt (fIsXD a dd n) (mArgs [(mVar 0), (ret (.cln "NoPlace"))])), (mBlt (fIsXD a dd n) (mArgs [(mVar 0), (ret (.cln "NoText"))]))])) (setN 1))
    (sSeq (sAsg (mOp fAddB (mVar 1) (mLst [(mBlt (fIsXD a dd n) (mArgs [(mVar 0), (ret (.cln "BadLine"))])), (mBlt (fIsXD a dd n) (mArgs [(mVar 0), (ret (.cln "TooMany"))]))])) (setN 1))
    (sSeq (sAsg (mLst [(ret (.str (Str.ofString "machine"))), (ret (.str (Str.ofString "arities"))), (ret (.str (Str.ofString "tree"))), (ret (.str (Str.ofString "unspelled"))), (ret (.str (Str.ofString "operator"))), (ret (.str (Str.ofString "prices"))), (ret (.str (Str.ofString "states"))), (ret (.str (Str.ofString "form"))), (ret (.str (Str.ofString "cover")))]) (setN 2))
    (sSeq (sAsg (mOp fAddB (mVar 2) (mLst [(ret (.str (Str.ofString "number"))), (ret (.str (Str.ofString "numbers"))), (ret (.str (Str.ofString "price"))), (ret (.str (Str.ofString "forms"))), (ret (.str (Str.ofString "endless"))), (ret (.str (Str.ofString "others"))), (ret (.str (Str.ofString "context"))), (ret (.str (Str.ofString "nodes")))])) (setN 2))
    (sSeq (sAsg (mOp fAddB (mVar 2) (mLst [(ret (.str (Str.ofString "arguments"))), (ret (.str (Str.ofString "unread"))), (ret (.str (Str.ofString "undone"))), (ret (.str (Str.ofString "place"))), (ret (.str (Str.ofString "text"))), (ret (.str (Str.ofString "line"))), (ret (.str (Str.ofString "many")))])) (setN 2))
    (sSeq (sIf (mOr (mB (mOp fNeA (mMt fCntB (mVar 1) (ret (.bl true))) (ret (.int 1)))) (mNot (mTru (mBlt (fIsXD a dd n) (mArgs [(mVar 0), (ret (.ty "ValueError"))]))))) (sSeq (sRet (ret (.str (Str.ofString "other"))))
    sNx) sNx)
    (sSeq (sRet (mOp fIx (mVar 2) (mMt fIdxB (mVar 1) (ret (.bl true)))))
    sNx))))))))))))))
theorem ev_kindX (n wd : Str) (h : kwB n wd = true) (a dd : Addr) (fs : List (Str × Int)) : ∃ st', runF 3 (bKindX a dd n) [.cxd a dd fs] [] = some (.ok (.str wd), st') := by
  unfold kwB at h
  rw [Bool.and_eq_true, decide_eq_true_eq] at h
  obtain ⟨h1, h2⟩ := h
  split at h2
  · rename_i j hj
    have h3 := of_decide_eq_true h2
    simp only [clsNames, List.map] at h1 hj
    have h4 : atI (wordN.map D.str) ((j : Nat) : Int) = some (D.str wd) := atI_ok (by omega) (by rw [Int.toNat_natCast, List.getElem?_map, h3]; rfl)
    simp only [wordN, List.map] at h4
    simp [bKindX, u_addM, envOf, locD, fCntB, fIdxB, onBls, h1, hj, kc_NoMachine, kc_NoArities, kc_NoTree, kc_Unspelled, kc_NoOperator, kc_NoPrices, kc_NoStates, kc_NoForm, kc_NoCover, kc_NoNumber, kc_NoNumbers, kc_NoPrice, kc_ManyForms, kc_Endless, kc_OtherArities, kc_NoContext, kc_NoNodes, kc_NoArguments, kc_NothingRead, kc_NothingDone, kc_NoPlace, kc_NoText, kc_BadLine, kc_TooMany]
    simp [h4]
  · cases h2
end M2
set_option Elab.async false
set_option linter.all false
set_option maxRecDepth 100000
set_option maxHeartbeats 4000000
namespace M2
open PySem PySem.Spec PyProof.Rows L2
open Classical
variable [Tb]
/-! ### a tuple of whole numbers of which it is known that it has no dict -/
def fg1 : D → D
  | .tpn ns => .tup (ns.map D.int)
  | d => d
def fg : D → D
  | .tpn ns => .tup (ns.map D.int)
  | .tup ds => .tup (ds.map fg1)
  | d => d
section
variable {K : PySem.W.Frag} {H : Hp} {φ : List Addr}
theorem VD.fg1 {v : V} {d : D} (h : VD K H φ v d) : VD K H φ v (M2.fg1 d) := by
  cases h with
  | tpn h1 h2 => exact .tup (.inl (.inr ⟨_, h1⟩)) (vds_ints _)
  | non => exact .non
  | bl => exact .bl
  | int => exact .int
  | str => exact .str
  | tup h1 h2 => exact .tup h1 h2
  | mu h1 h2 => exact .mu h1 h2
  | key h => exact .key h
  | mdt h1 h2 => exact .mdt h1 h2
  | obj h1 h2 => exact .obj h1 h2
  | scr h => exact .scr h
  | ty => exact .ty
  | cls => exact .cls
  | cln => exact .cln
  | exc h => exact .exc h
  | exf h1 h2 => exact .exf h1 h2
  | cxd h => exact .cxd h
  | dic h1 h2 h3 => exact .dic h1 h2 h3
theorem VDs.fg1 : ∀ {vs : List V} {ds : List D}, VDs K H φ vs ds → VDs K H φ vs (ds.map M2.fg1)
  | _, _, .nil => .nil
  | _, _, .cons h t => .cons h.fg1 t.fg1
theorem VD.fg {v : V} {d : D} (h : VD K H φ v d) : VD K H φ v (M2.fg d) := by
  cases h with
  | tpn h1 h2 => exact .tup (.inl (.inr ⟨_, h1⟩)) (vds_ints _)
  | non => exact .non
  | bl => exact .bl
  | int => exact .int
  | str => exact .str
  | tup h1 h2 => exact .tup h1 h2.fg1
  | mu h1 h2 => exact .mu h1 h2
  | key h => exact .key h
  | mdt h1 h2 => exact .mdt h1 h2
  | obj h1 h2 => exact .obj h1 h2
  | scr h => exact .scr h
  | ty => exact .ty
  | cls => exact .cls
  | cln => exact .cln
  | exc h => exact .exc h
  | exf h1 h2 => exact .exf h1 h2
  | cxd h => exact .cxd h
  | dic h1 h2 h3 => exact .dic h1 h2 h3
end
def mFg (m : MM D) : MM D := bnd m fun d => ret (fg d)
section
variable {X : Cx} {E : XK} {e o : Expr} {es : List Expr} {pos apos cpos p : Pos} {m mo mv : MM D} {ms : List (MM D)} {x : Str}
theorem de_fg (he : DE X E e m) : DE X E e (mFg m) := pe_imp he fun σ H Q ⟨en, st, φ, g⟩ => ⟨en, st, φ, g.bind.imp fun st1 d φ1 H1 _ _ ⟨k1, r1, g1⟩ v hv => g1.ret v hv.fg⟩
/-! ### made -/
theorem call_tuple_frz : CallR X (.type "tuple") (fun xs H Q => ∃ p ys, xs = [.ref p] ∧ SqL X.K H p ys ∧ ∀ (l : Addr) (ob : Obj), H l = none → ob.dict = none → Q (.ref l) (upd H l (.frz ob (.tup ys)))) := by
  intro pins s σ H xs us Q I r h
  obtain ⟨p, ys, rfl, hq, q⟩ := h
  obtain ⟨u, rfl, rx⟩ := vals1 r
  cases rx
  obtain ⟨its, r', pl, hz⟩ := I.list hq
  have hlen := r'.length
  refine call_tuple_list pl.isList (fun h' kp => ?_) (by simp only [List.size_toArray] <;> omega)
  have I1 : Inv X pins σ H { s with heap := h' } := I.kept (t' := s.toks) kp
  have I2 : Inv X pins σ (upd H h'.objs.size (.frz { cls := .type "tuple", data := .seq its.toArray } (.tup ys))) { s with heap := h'.push { cls := .type "tuple", data := .seq its.toArray } } :=
    I1.laid (t' := s.toks) (fun b o e => Heap.get?_push_of_some _ e) (Nat.le_refl _) (show ObjOk X.prog X.w _ _ _ (.frz _ (.tup ys)) from ⟨Heap.get?_push_size _ rfl, hz, its, r', IsTup.new _ _⟩)
  exact ⟨.ref h'.objs.size, _, I2, rfl, q _ _ (I1.hok.fresh (Nat.le_refl _)) rfl⟩
def fTupN : FDB := fun ds st => match ds with
  | [.mu l] => (st[l]?).bind fun xs => (intsD xs).map fun ns => (.tpn ns, st)
  | _ => none
theorem cal_tupN : CalD X (fun xs H Q => ∃ p ys, xs = [.ref p] ∧ SqL X.K H p ys ∧ ∀ (l : Addr) (ob : Obj), H l = none → ob.dict = none → Q (.ref l) (upd H l (.frz ob (.tup ys)))) fTupN := by
  intro H φ st Q vs ds dz st' rs hv hf q
  unfold fTupN at hf
  split at hf
  · rename_i l
    cases e : st[l]? with
    | none => rw [e] at hf; cases hf
    | some xs =>
      rw [e, Option.bind_some] at hf
      cases e2 : intsD xs with
      | none => rw [e2] at hf; cases hf
      | some ns =>
        rw [e2] at hf; cases hf
        have := intsD_eq e2
        subst this
        obtain ⟨v, rfl, h⟩ := hv.one
        obtain ⟨a, rfl, ha⟩ := h.mutI
        obtain ⟨ws, g1, g2⟩ := rs.get l a _ ha e
        have := g2.ints
        subst this
        refine ⟨a, ns.map V.int, rfl, .of g1, fun p ob hp hd => ?_⟩
        obtain ⟨kx, r⟩ := lay_any (o := .frz ob (.tup (ns.map V.int))) rs hp nt_frz
        exact q _ φ _ kx r (.tpn upd_same hd)
  · cases hf
theorem pe_tupF {x1 : Nat} {t : TA} (h : PA X es t) : PE X (.Tuple es x1 pos) (fun σ H Q => t σ H fun xs H1 => xs.length ≤ sizeLine ∧ ∀ (l : Addr) (ob : Obj), H1 l = none → ob.dict = none → Q (.ref l) (upd H1 l (.frz ob (.tup xs)))) := by
  refine ⟨fun pins s σ H Q I hq => ?_⟩
  refine wpAny_Tuple_spliced (thn (h.run pos pins s σ H _ I hq) fun us s1 ⟨xs, H1, I1, r, z, q⟩ => ⟨by rw [← r.length]; exact z, ?_⟩)
  have hf : H1 s1.heap.objs.size = none := I1.hok.fresh (Nat.le_refl _)
  refine ⟨.ref s1.heap.objs.size, upd H1 s1.heap.objs.size (.frz { cls := .type "tuple", data := .seq us.toArray } (.tup xs)), I1.laid (t' := s1.toks) (fun b u e => Heap.get?_push_of_some _ e) (Nat.le_refl _) ?_, rfl, q _ _ hf rfl⟩
  exact ⟨Heap.get?_push_size _ rfl, z, us, r, ⟨_, Heap.get?_push_size _ rfl, rfl, _, rfl⟩⟩
def mTupN (ms : List (MM D)) : MM D := bnd (mArgs ms) fun ds => lft (if ds.length < 100000 then (intsD ds).map D.tpn else none)
theorem de_tupN {x1 : Nat} (h : DA X E es (mArgs ms)) : DE X E (.Tuple es x1 pos) (mTupN ms) :=
  pe_imp (pe_tupF h) fun σ H Q ⟨en, st, φ, g⟩ => ⟨en, st, φ, g.bind.imp fun st1 ds φ1 H1 _ _ ⟨k1, r1, g1⟩ vs hv => by
    obtain ⟨z, e, q⟩ := g1.lft'
    split at e
    · rename_i hl
      cases e2 : intsD ds with
      | none => rw [e2] at e; cases e
      | some ns =>
        rw [e2] at e; cases e
        have := intsD_eq e2
        subst this
        have := hv.ints
        subst this
        refine ⟨big (by rw [hv.length]; omega), fun p ob hp hd => ?_⟩
        obtain ⟨kx, rr⟩ := lay_any (o := .frz ob (.tup (ns.map V.int))) r1 hp nt_frz
        exact q φ1 _ kx rr _ (.tpn upd_same hd)
    · cases e⟩
/-! ### t.index(k) -/
theorem mt_tup_indexI : MtR X "tuple.index" (fun x xs H Q => ∃ p, ∃ ns : List Int, ∃ k, x = .ref p ∧ xs = [.int k] ∧ SqT X.K H p (ns.map V.int) ∧ k ∈ ns ∧ Q (.int (ns.idxOf k : Nat)) H) := by
  intro pins s σ H x xs v us Q I rx rs h
  obtain ⟨p, ns, k, rfl, rfl, hq, hk, q⟩ := h
  cases rx
  obtain ⟨u, rfl, t, rfl⟩ := vals1 rs
  obtain ⟨its, r, pl, hz⟩ := I.tuple hq
  exact PySem.SeqAt.tuple_index_ints pl (intsAre_of r) hk ⟨.int (ns.idxOf k : Nat), H, I.tok _, ⟨_, rfl⟩, q⟩
theorem pe_idxT {to : TE} {t : TA} (ho : PE X o to) (ha : PA X [e] t)
    (hbase : attributeBase o "index" X.env (eval o X.env) = eval o X.env := by rfl)
    (hfew : ((backTo cpos (starEach [e] X.env)).all (fun x => !x.1) && (backToKw cpos (keywordEach [] X.env)).all (fun x => x.1.isSome)
      && decide ([e].length + ([] : List Keyword).length + (if ([] : List Keyword).isEmpty then 0 else 1) < 30)) = true := by rfl)
    (hline : (apos.endLine == cpos.line) = true := by rfl) (hs : starEach [e] X.env = (false, eval e X.env) :: starEach [] X.env := by rfl) (hplain : (backTo cpos (starEach [] X.env)).any (·.1) = false := by rfl) :
    PE X (.Call (.Attribute o "index" apos) [e] [] cpos) (fun σ H Q => to σ H fun x H1 => (∃ p ob ys, x = .ref p ∧ H1 p = some (.frz ob (.tup ys)) ∧ ob.dict = none) ∧ t σ H1 fun xs H2 => ∃ p, ∃ ns : List Int, ∃ k, x = .ref p ∧ xs = [.int k] ∧ SqT X.K H2 p (ns.map V.int) ∧ k ∈ ns ∧ Q (.int (ns.idxOf k : Nat)) H2) := by
  refine ⟨fun pins s σ H Q I h => ?_⟩
  refine wpAny_Call_method_late hbase hfew hline rfl (thn (ho.run pins s σ H _ I h) fun v s1 ⟨x, H1, I1, r1, ty, q1⟩ => ?_)
  obtain ⟨p, ob, ys, rfl, hp, hd⟩ := ty
  cases r1
  obtain ⟨g1, _, its, _, o', g2, hc, _⟩ := I1.hok p _ hp
  refine ⟨"tuple", "tuple.index", PySem.F.plainAttrs_tuple, PySem.F.slot_tuple_index, PySem.F.type_tuple_index, ⟨o', g2, hc⟩, fun a ea => by cases ea; exact ⟨ob, g1, hd⟩, ?_⟩
  have hA := ha.run cpos pins s1 σ H1 _ I1 q1
  rw [hs] at hA ⊢
  refine Calls.callWith_builtin (by show (false || (backTo cpos (starEach [] X.env)).any (·.1)) = false; rw [hplain] <;> rfl) (Calls.evalArgs_plain ?_)
  exact thn hA fun us s2 ⟨vs, H2, I2, r2, q2⟩ => mt_tup_indexI pins s2 σ H2 (.ref p) vs _ us Q I2 rfl r2 q2
def tpnD : D → Option (List Int)
  | .tpn ns => some ns
  | _ => none
theorem tpnD_some {d : D} {ns : List Int} (h : tpnD d = some ns) : d = .tpn ns := by
  cases d <;> first | (cases h; rfl) | cases h
def ixI (ns : List Int) : D → Option D
  | .int k => if k ∈ ns then some (.int (ns.idxOf k : Nat)) else none
  | _ => none
def mIdxT (mo mv : MM D) : MM D := bnd mo fun d => bnd (lft (tpnD d)) fun ns => bnd (mArgs [mv]) fun es => lft (match es with
  | [e] => ixI ns e
  | _ => none)
theorem de_idxT (ho : DE X E o mo) (ha : DA X E [e] (mArgs [mv]))
    (hpe : ∀ {to : TE} {t : TA}, PE X o to → PA X [e] t → PE X (.Call (.Attribute o "index" apos) [e] [] cpos) (fun σ H Q => to σ H fun x H1 => (∃ p ob ys, x = .ref p ∧ H1 p = some (.frz ob (.tup ys)) ∧ ob.dict = none) ∧ t σ H1 fun xs H2 => ∃ p, ∃ ns : List Int, ∃ k, x = .ref p ∧ xs = [.int k] ∧ SqT X.K H2 p (ns.map V.int) ∧ k ∈ ns ∧ Q (.int (ns.idxOf k : Nat)) H2)) :
    DE X E (.Call (.Attribute o "index" apos) [e] [] cpos) (mIdxT mo mv) :=
  pe_imp (hpe ho ha) fun σ H Q ⟨en, st, φ, g⟩ => ⟨en, st, φ, g.bind.imp fun st1 d φ1 H1 _ _ ⟨k1, r1, g1⟩ x hx => by
    obtain ⟨ns, el, _, _, g2⟩ := g1.bind.lft
    rw [tpnD_some el] at hx
    cases hx with
    | tpn h1 h2 =>
      refine ⟨⟨_, _, _, rfl, h1, h2⟩, en, st1, φ1, g2.bind.imp fun st3 ds φ3 H3 _ _ ⟨k3, r3, g5⟩ us hu => ?_⟩
      obtain ⟨z, hz, q⟩ := g5.lft
      split at hz
      · rename_i e
        obtain ⟨v, rfl, hv⟩ := hu.one
        unfold ixI at hz
        split at hz
        · rename_i k
          split at hz
          · rename_i hk
            cases hz
            cases hv
            exact ⟨_, ns, k, rfl, rfl, .inl (.inr ⟨_, k3.imm _ _ h1 nt_frz fun z => nomatch z⟩), hk, q _ .int⟩
          · cases hz
        · cases hz
      · cases hz⟩
end
end M2
set_option Elab.async false
set_option linter.all false
set_option maxRecDepth 100000
set_option maxHeartbeats 4000000
namespace M2
open PySem PySem.Spec PyProof.Rows L2
open Classical
variable [Tb]
/-! ### try: e, except PickError as x: a suite that returns -/
section
variable {X : Cx} {x : Str} {p pos : Pos} {e : Expr} {es : List Expr} {m : MM (List D)} {k n : Nat} {F : FD} {W : WX}
theorem pe_callGW {f : Addr} {fd : FuncData} {ps : List Str} {sp : Sp} {t : L2.St → TA} (F : FnG X.prog X.w X.K X.mg X.base (L2.CX X.prog X.w) k f fd ps sp) (hgd : X.A.guards = some []) (hr : Room k X.A) (hg : Gl X x) (hm : X.mg x = some (.ref f)) (hk : PySem.W.keepIn X.K (.ref f) = true) (hb : Binds X.K fd ps []) (tk : Takes X W)
    (ha : ∀ τ, PA X (e :: es) (t τ)) (hdb : (x == ("__debug__" : Str)) = false) (he : starEach (e :: es) X.env = (false, eval e X.env) :: starEach es X.env) (hpl : (backTo pos (starEach es X.env)).any (·.1) = false) :
    PE X (.Call (.Name x p) (e :: es) [] pos) (fun σ H Q => t σ σ H fun vs H1 => sp vs H1 Q (WE W σ)) := by
  refine ⟨fun pins s σ H Q I h => wpAny_Call_Name_kw (ld_glob I hg hm (PySem.W.callWith_K (h₀ := X.base) I.ok.mod.kin hk ?_ he hpl) hdb)⟩
  refine thn ((ha σ).run pos pins s σ H _ I h) fun us s1 ⟨vs, H1, I1, r, q⟩ => ⟨I1.kIn, wpAny_call (codeAny_mono (F.run X.A X.stack s1 H1 ⟨us, []⟩ us vs Q (WE W σ) hgd hr I1.env0 ?_ r q) fun res s2 z => ?_)⟩
  · have hz := hb s1 us I1.kIn (by rw [List.append_nil, ← r.length]; exact F.len _ _ _ _ q)
    rwa [List.append_nil] at hz
  · match res, z with
    | .error er, z => exact passAt tk σ pins H1 s1 er s2 I1 z
    | .ok (.ret u), z => exact I1.after z
theorem de_callW (d : Df X.prog X.w X.K X.mg X.base x k n F) (hgd : X.A.guards = some []) (hr : Room k X.A) (tk : Takes X W) (hg : Gl X x) (ha : ∀ E, DA X E (e :: es) m)
    (hdb : (x == ("__debug__" : Str)) = false) (he : starEach (e :: es) X.env = (false, eval e X.env) :: starEach es X.env) (hpl : (backTo pos (starEach es X.env)).any (·.1) = false) :
    PE X (.Call (.Name x p) (e :: es) [] pos) (fun σ H Q => tM X.K (WE W σ) (mCall n F m) σ H Q) := by
  obtain ⟨f, fd, ps, hm, hk, hb, hF⟩ := d.ex
  refine pe_imp (pe_callGW (t := fun τ => tAM X.K (WE W τ) m) hF hgd hr hg hm hk hb tk (fun τ => ha _) hdb he hpl) fun σ H Q ⟨en, st, φ, g⟩ => ⟨en, st, φ, g.bind.imp fun st1 ds φ1 H1 _ _ ⟨k1, r1, g1⟩ vs hv => ?_⟩
  obtain ⟨re, rs, r, st', em, q⟩ := g1
  split at em
  · rename_i hn
    exact ⟨ds, st1, φ1, r, st', hv, r1, hn, em, q⟩
  · cases em
end
/-! ### what the module says of the classes of a law that tells few of them -/
def kndCB (K : PySem.W.Frag) (cs : List Str) (n : Str) : Bool :=
  excB K (clsA K n) && (cs.all (fun m => decide (PySem.W.kitOne K (.ref (clsA K n)) (.ref (clsA K m)) = some (isaX n m))) &&
  (decide (PySem.W.exmOne K (.ref (clsA K n)) (.ref (clsA K "PickError")) = some true) && (PySem.W.excIn K (clsA K n) [.type "ValueError", .type "Exception", .type "BaseException", .type "object"] "ValueError.__new__" && (PySem.W.keepIn K (.ref (clsA K n)) &&
  (decide (PySem.W.subIn K (.ref (clsA K n)) (.type "BaseException") = some true) && (decide (PySem.W.typeIn K (.ref (clsA K n)) = some (.type "type")) &&
  decide (PySem.W.nsIn K mainGlobals n = some (some (.ref (clsA K n))))))))))
structure KndC (K : PySem.W.Frag) (cs : List Str) (n : Str) : Prop where
  e : ExcC K (clsA K n)
  k : ∀ m, cs.contains m = true → PySem.W.kitOne K (.ref (clsA K n)) (.ref (clsA K m)) = some (isaX n m)
  p : PySem.W.exmOne K (.ref (clsA K n)) (.ref (clsA K "PickError")) = some true
  q : PySem.W.excIn K (clsA K n) [.type "ValueError", .type "Exception", .type "BaseException", .type "object"] "ValueError.__new__" = true
  kp : PySem.W.keepIn K (.ref (clsA K n)) = true
  b : PySem.W.subIn K (.ref (clsA K n)) (.type "BaseException") = some true
  t : PySem.W.typeIn K (.ref (clsA K n)) = some (.type "type")
  g : PySem.W.nsIn K mainGlobals n = some (some (.ref (clsA K n)))
theorem kndC_of {K : PySem.W.Frag} {cs : List Str} {n : Str} (h : kndCB K cs n = true) : KndC K cs n := by
  simp only [kndCB, Bool.and_eq_true, decide_eq_true_eq] at h
  obtain ⟨h1, h2, h4, h5, h6, h7, h8, h9⟩ := h
  exact ⟨excB_ok h1, fun m hm => of_decide_eq_true (List.all_eq_true.mp h2 m (List.contains_iff_mem.mp hm)), h4, h5, h6, h7, h8, h9⟩
theorem knc_of {K : PySem.W.Frag} {cs : List Str} {kw : List (Str × Str)} (h : kw.all (fun p => kndCB K cs p.1) = true) : ∀ n wd, (n, wd) ∈ kw → KndC K cs n := fun n wd hm => kndC_of (List.all_eq_true.mp h (n, wd) hm)
def fIsC (cs : List Str) (a : Addr) (n : Str) : FDB := fun ds st => match ds with
  | [.cls b, .cln m] => if b = a ∧ cs.contains m = true then some (.bl (isaX n m), st) else none
  | _ => none
theorem cal_isC {X : Cx} {cs : List Str} {a : Addr} {n : Str} (I : KndC X.K cs n) : CalD X (rIsE X.K (clsA X.K n) a) (fIsC cs a n) := by
  intro H φ st Q vs ds dz st' rs hv hf q
  unfold fIsC at hf
  split at hf
  · rename_i b m
    split at hf
    · rename_i c
      cases hf
      obtain ⟨v, u, rfl, h1, h2⟩ := hv.two
      cases h1; cases h2
      obtain ⟨rfl, c2⟩ := c
      exact ⟨_, .ref (clsA X.K m), _, rfl, fun u hu => hu, I.k m c2, q _ φ H .refl rs .bl⟩
    · cases hf
  · cases hf
theorem ds_raiseC {X : Cx} {E : XK} {cs : List Str} {x m : Str} {j : Nat} {p p2 pos pos2 : Pos} (kn : KndC X.K cs x) (hm : X.mg x = some (.ref (clsA X.K x))) (hc : X.calm = true) (tk : Takes X fun cls d _ H => E cls d H) (hg : Gl X x) (hd : (x == ("__debug__" : Str)) = false) :
    DS1 X E (.Raise (some (.Call (.Name x p) [.Constant (.str m) j p2] [] pos)) none pos2) (sRaise x) :=
  ds_raise hc tk (pmk_own PySem.F.excBase_ValueError kn.q hm kn.kp (raises_own kn.b kn.t) hg hd)
/-! ### the statement -/
def sTryE (i : Nat) (kw : List (Str × Str)) (rs : Str → Option D) (m : MM D) : MS := fun en st => match m en st with
  | none => none
  | some (.ok _, st1) => some (.nx, en, st1)
  | some (.error e, st1) => match e.fs, kw.lookup e.n with
    | [], some _ => if i < en.length then (rs e.n).map fun d => (.rt d, en, st1) else none
    | _, _ => none
def tsT (K : PySem.W.Frag) (kw : List (Str × Str)) (ms : Addr → Str → MS) : Addr → Value → Option Addr → TS := fun a cls d D σ H => ∃ n wd, (n, wd) ∈ kw ∧ cls = .ref (clsA K n) ∧ d = none ∧ tSM K noE (ms a n) D σ H
section
variable {X : Cx} {E : XK} {e : Expr} {nm : Str} {i : Nat} {b₀ : Stmt} {suite : List Stmt} {cs : List Str} {kw : List (Str × Str)} {rs : Str → Option D} {m : MM D} {ms : Addr → Str → MS} {p4 p5 p6 p7 : Pos}
theorem ds_tryE (kn : ∀ n wd, (n, wd) ∈ kw → KndC X.K cs n) (hs : X.stack = X.env :: X.outer) (hf : X.env.frame = some X.env.locals) (hN : X.N.Nodup) (hi : X.N[i]? = some nm) (hln : X.env.kindOf nm = some .local) (hc : Names X "PickError" (.ref (clsA X.K "PickError")))
    (hb : ∀ (W : WX) (pn : List (Addr × Obj)) (xe : Value → Shared → Prop), Takes (X.tr pn xe) W → PE (X.tr pn xe) e (fun σ H Q => tM X.K (WE W σ) m σ H Q)) (hsw : swapsWith e none p4.line X.env = pure false)
    (hsu : ∀ (a : Addr) (oe : Obj) (n wd : Str) (pn : List (Addr × Obj)), (n, wd) ∈ kw → Zc (.ref (clsA X.K n)) none oe → (∃ us, oe.data = .fields us) → DSs (X.suite a ((a, oe) :: pn)) noE (b₀ :: suite) (ms a n))
    (hrs : ∀ (a : Addr) (n wd : Str) (en : En) (st : Sto) (d : D), (n, wd) ∈ kw → rs n = some d → i < en.length → ∃ en', ms a n (en.set i (some (.cls a))) st = some (.rt d, en', st)) :
    DS1 X E (.Try [.Expr e p4] [.ExceptHandler (some (.Name "PickError" p5)) (some nm) (b₀ :: suite) p6] [] [] p7) (sTryE i kw rs m) := by
  refine ps_imp (ps_try_as (Wout := fun _ _ _ _ => False) (tb := fun W D σ H => tM X.K (WE W σ) m σ H fun v H' => D.nx σ H') (ts := tsT X.K kw ms) hs hf hN hi hln hc LamX.takes0 (fun W pn xe tk _ => pss_imp (pss_one (ps_expr (hb W pn xe tk) hsw)) fun D σ H h => h) (fun a oe cls d pn hz hf => ?_)) fun D σ H ⟨en, st, φ, re, rs0, c, en', st', em, q⟩ => ?_
  · refine ⟨fun pins s3 σ1 H2 D I3 h => ?_⟩
    obtain ⟨n, wd, hn, e1, e2, h⟩ := h
    subst e1 e2
    exact (hsu a oe n wd pn hn hz hf).run pins s3 σ1 H2 D I3 h
  · unfold sTryE at em
    cases hm0 : m en st with
    | none => rw [hm0] at em; cases em
    | some r0 =>
      obtain ⟨r0, st1⟩ := r0
      rw [hm0] at em
      cases r0 with
      | ok dv =>
        cases em
        exact ⟨en, st, φ, re, rs0, .ok dv, _, hm0, fun φ' H' kx rs' v hv => q φ' H' kx rs' σ (re.mono kx)⟩
      | error er =>
        replace em : (match er.fs, kw.lookup er.n with
          | [], some _ => if i < en.length then (rs er.n).map fun d => ((Ctl.rt d, en, st1) : Ctl × En × Sto) else none
          | _, _ => none) = some (c, en', st') := em
        split at em
        · rename_i wd hfs hlk
          by_cases hil : i < en.length
          case neg => rw [if_neg hil] at em; cases em
          rw [if_pos hil] at em
          cases hr : rs er.n with
          | none => rw [hr] at em; cases em
          | some d =>
            rw [hr] at em
            cases em
            have hmem := lookup_mem hlk
            refine ⟨en, st, φ, re, rs0, .error er, _, hm0, fun φ' H' kx rs' => ?_⟩
            refine fly_of (E := WE (wAs X.K (.ref (clsA X.K "PickError")) i (tsT X.K kw ms) (fun _ _ _ _ => False) D) σ) hfs ⟨true, (kn _ _ hmem).p, fun _ a ha => ?_, fun h => by cases h⟩
            obtain ⟨en2, run⟩ := hrs a er.n wd en st' d hmem hr hil
            exact ⟨er.n, wd, hmem, rfl, rfl, en.set i (some (.cls a)), st', φ', (re.mono kx).set .cls, rs', _, _, _, run, fun φ2 H2 kx2 rs2 v hv => q φ2 H2 (kx.trans kx2) rs2 v hv⟩
        · cases em
end
/-- the suite that tells whether it is of one class -/
theorem suite_is {cs : List Str} {k : Str} (hk : cs.contains k = true) {i : Nat} (a : Addr) (n : Str) (en : En) (st : Sto) (d : D) (hd : (some (D.bl (isaX n k)) : Option D) = some d) (hl : i < en.length) : ∃ en', (sSeq (sRet (mBlt (fIsC cs a n) (mArgs [(mVar i), (ret (.cln k))]))) sNx) (en.set i (some (.cls a))) st = some (.rt d, en', st) := by
  cases hd
  have v : (en.set i (some (D.cls a)))[i]? = some (some (.cls a)) := List.getElem?_set_self hl
  refine ⟨_, s_ret ?_⟩
  have vv : mVar i (en.set i (some (D.cls a))) st = some (.ok (.cls a), st) := by simp only [u_mVar, v, Option.join_some, Option.map_some]
  have f : fIsC cs a n [.cls a, .cln k] st = some (.bl (isaX n k), st) := by
    show (if a = a ∧ cs.contains k = true then _ else _) = _
    rw [if_pos ⟨rfl, hk⟩]
  simp only [u_mBlt, u_bnd, u_mArgs1, u_mArgs0, vv, u_ret, u_stm, f, Option.map_some]
end M2
set_option Elab.async false
set_option linter.all false
set_option maxRecDepth 100000
set_option maxHeartbeats 4000000
namespace M2
open PySem PySem.Spec PyProof.Rows L2
variable [Tb]
section
variable {X : Cx} {E : XK}
/-! ### t * 0 of a tuple: a new one without items -/
theorem tuple_mul0 (l : Addr) (items : Array Value) (n : Nat) (dd : Option Addr) (sl : Array (Option Value)) (u : Tok) (c1 : (items.isEmpty || (0 : Int) == 1) = false) :
    Meets (Builtin.«tuple.__mul__» ⟨[.ref l, .int 0 u], []⟩) (fun _ R s => s.heap.get? l = some { cls := .type "tuple", dict := dd, data := .seq items n, slots := sl } ∧
      R (.ok (.ret (Value.ref s.heap.objs.size))) { s with heap := s.heap.push { cls := Value.type "tuple", data := Data.seq #[] }, toks := s.toks }) :=
  .of_wp fun prog w A R s h => by
    obtain ⟨hp, g, d, tk, os⟩ := s
    obtain ⟨hl, h⟩ := h
    have f1 := AutoSeq1.idx_int
    wp_walk using wpAny_loadPart' hl
    repeat (first
      | (refine wpAny_ite_false (decide_eq_false (by decide)) ?_; wp_walk using wpAny_loadPart' hl)
      | (refine wpAny_ite_false (decide_eq_false (by rw [c1]; exact Bool.false_ne_true)) ?_; wp_walk using wpAny_loadPart' hl)
      | (refine wpAny_ite_true (decide_eq_true (by simp)) ?_; wp_walk using wpAny_loadPart' hl))
    exact ⟨_, rfl, h⟩
def rTup0 (K : PySem.W.Frag) : R2 := fun x y H Q => ∃ (a : Addr) (xs : List V), x = .ref a ∧ y = .int 0 ∧ SqT K H a xs ∧ xs ≠ [] ∧ ∀ p, H p = none → Q (.ref p) (upd H p (.tup []))
theorem op_tup0 : OpR X (binaryOp .Mult) (rTup0 X.K) := by
  intro pins s σ H x y v u Q I rx ry h
  obtain ⟨a, ys, rfl, rfl, hT, hne, q⟩ := h
  cases rx
  obtain ⟨tk, rfl⟩ := ry
  obtain ⟨vals, r, ⟨⟨cl, dd, dt, sl⟩, ho, hc, n, hd⟩, hs⟩ := I.tuple hT
  simp only at hc hd
  subst hc hd
  have hle : vals.length = ys.length := r.length.symm
  have hi : vals.toArray.isEmpty = false := by
    cases vals with
    | nil => exact absurd (List.eq_nil_of_length_eq_zero hle.symm) hne
    | cons a b => rfl
  have c1 : (vals.toArray.isEmpty || (0 : Int) == 1) = false := by rw [hi]; rfl
  refine wpAny_binaryOp_repeat_ref (T := "tuple") (U := "int") (by decide) ⟨_, ho, rfl⟩ (fun z => typeIs_int z 0 tk) noFill_tuple_mul F.fills_int_mul F.slot_int_rmul repeat_tuple F.slot_int_index.lookup (call_meets F.slot_int_rmul (typeIs_int s 0 tk) F.entry_int_rmul (F.args_int_rmul_2 _ _) (int_rmul_tuple 0 tk a vals.toArray n dd sl) ⟨ho, rfl, ⟨_, ho, rfl⟩, call_meets F.slot_tuple_mul ⟨_, ho, rfl⟩ F.entry_tuple_mul (F.args_tuple_mul_2 _ _) (tuple_mul0 a vals.toArray n dd sl tk c1) ⟨ho, ?_⟩⟩)
  have hf : H s.heap.objs.size = none := I.hok.fresh (Nat.le_refl _)
  refine ⟨.ref s.heap.objs.size, upd H s.heap.objs.size (.tup []), I.laid (t' := s.toks) (fun b u e => Heap.get?_push_of_some _ e) (Nat.le_refl _) ?_, rfl, q _ hf⟩
  exact ⟨Nat.zero_le _, [], .nil, IsTup.new _ _⟩
def fMulC : FD2 := fun x y st => match x, y with
  | .tup xs, .int k => if k = 0 ∧ xs ≠ [] then some (.tup [], st) else fMulB (.tup xs) (.int k) st
  | x, y => fMulB x y st
theorem op_mulV : OpR X (binaryOp .Mult) (fun x y H Q => rTup0 X.K x y H Q ∨ (rTup1 X.K x y H Q ∨ (rTupN X.K x y H Q ∨ rMulA x y H Q))) := op_tup0.or op_mulU
theorem opd_mulV : OpD X (fun x y H Q => rTup0 X.K x y H Q ∨ (rTup1 X.K x y H Q ∨ (rTupN X.K x y H Q ∨ rMulA x y H Q))) fMulC := by
  intro H φ st Q x y dx dy dz st' rs vx vy hf q
  unfold fMulC at hf
  split at hf
  · rename_i xs k
    split at hf
    · rename_i c
      obtain ⟨rfl, c⟩ := c
      cases hf
      obtain ⟨a, ws, rfl, h1, h2⟩ := vx.tupI
      cases vy
      refine .inl ⟨a, ws, rfl, rfl, h1, fun e => ?_, fun p hp => ?_⟩
      · subst e; cases h2; exact c rfl
      · obtain ⟨kx, r⟩ := lay_tup (xs := []) rs hp
        exact q _ _ _ kx r (.tup (.of upd_same) .nil)
    · exact .inr (opd_mulU H φ st Q _ y _ _ dz st' rs vx vy hf q)
  · exact .inr (opd_mulU H φ st Q x y _ _ dz st' rs vx vy hf q)
end
end M2
set_option Elab.async false
set_option linter.all false
set_option maxRecDepth 100000
set_option maxHeartbeats 2000000
namespace M2
open PySem PySem.Spec PyProof.Rows L2
open Classical
variable [Tb]
/-! ### what can be shown -/
structure Rq (q : PyData) : Prop where
  can : q.canLay0 = true
  sho : q.showable = true
  sht : q.intsShort 150 = true
def wts (qs : List PyData) : Nat := (qs.map fun q => q.weight + 1).sum
theorem rq_all : ∀ {qs : List PyData}, (∀ q ∈ qs, Rq q) → PyData.canLayAll0 qs = true ∧ PyData.showableAll qs = true ∧ PyData.intsShortAll 150 qs = true ∧ PyData.weightAll qs = wts qs
  | [], _ => ⟨rfl, rfl, rfl, rfl⟩
  | x :: xs, h => by
    obtain ⟨a, b, c, d⟩ := rq_all (qs := xs) fun y hy => h y (List.mem_cons_of_mem _ hy)
    have r := h x List.mem_cons_self
    refine ⟨?_, ?_, ?_, ?_⟩
    · show (x.canLay0 && PyData.canLayAll0 xs) = true
      rw [r.can, a]; rfl
    · show (x.showable && PyData.showableAll xs) = true
      rw [r.sho, b]; rfl
    · show (x.intsShort 150 && PyData.intsShortAll 150 xs) = true
      rw [r.sht, c]; rfl
    · unfold PyData.weightAll
      rw [d]
      simp [wts]
theorem Rq.int {i : Int} (h : i.natAbs < 2 ^ 110) : Rq (.int i) := by
  have hl : i.natAbs.log2 < 110 := by
    by_cases h0 : i.natAbs = 0
    · rw [h0]; decide
    · exact (Nat.log2_lt h0).mpr h
  refine ⟨rfl, decide_eq_true (show i.natAbs.log2 < 1920 by omega), ?_⟩
  show decide ((PyData.shown (.int i)).length ≤ 150) = true
  refine decide_eq_true ?_
  show (Str.ofString (toString i)).length ≤ 150
  rw [PySem.ofString_length]
  have := PySem.int_text_length_le (k := 110) (by decide) hl
  omega
theorem wt_int {i : Int} {k : Nat} (h : i.natAbs < 2 ^ k) : (PyData.int i).weight ≤ k := by
  unfold PyData.weight
  split
  · omega
  · rename_i h0
    have h0' : i.natAbs ≠ 0 := fun z => h0 (by
      have : i = 0 := by omega
      rw [this]; rfl)
    have := (Nat.log2_lt h0').mpr h
    omega
theorem Rq.text (s : String) : Rq (.str (Str.ofString s)) := by
  refine ⟨?_, rfl, rfl⟩
  show ((Str.ofString s).cps.all fun c => decide (c < 0x110000)) = true
  rw [show Str.ofString = Str.ofStringByList from Str.ofString_eq_byList]
  unfold Str.ofStringByList
  simp only [List.all_toArray]
  refine List.all_eq_true.mpr fun c hc => ?_
  obtain ⟨ch, _, rfl⟩ := List.mem_map.mp hc
  refine decide_eq_true ?_
  have := ch.valid
  show ch.val.toNat < 0x110000
  rcases this with h | ⟨_, h⟩
  · exact Nat.lt_trans h (by decide)
  · exact h
theorem Rq.tup {qs : List PyData} (h : ∀ q ∈ qs, Rq q) : Rq (.tuple qs) := by
  obtain ⟨a, b, c, _⟩ := rq_all h
  exact ⟨a, b, c⟩
theorem Rq.lst {qs : List PyData} (h : ∀ q ∈ qs, Rq q) : Rq (.list qs) := by
  obtain ⟨a, b, c, _⟩ := rq_all h
  exact ⟨a, b, c⟩
/-! ### data by fuel -/
mutual
theorem dat_up (st : Sto) : ∀ (n : Nat) (d : D) (q : PyData), dat st n d = some q → dat st (n + 1) d = some q
  | 0, _, _, h => by unfold dat at h; cases h
  | n + 1, .non, _, h => by unfold dat at h ⊢; exact h
  | n + 1, .bl _, _, h => by unfold dat at h ⊢; exact h
  | n + 1, .int _, _, h => by unfold dat at h ⊢; exact h
  | n + 1, .str _, _, h => by unfold dat at h ⊢; exact h
  | n + 1, .scr _, _, h => by unfold dat at h ⊢; exact h
  | n + 1, .ty _, _, h => by unfold dat at h; cases h
  | n + 1, .cls _, _, h => by unfold dat at h; cases h
  | n + 1, .cln _, _, h => by unfold dat at h; cases h
  | n + 1, .exc _, _, h => by unfold dat at h; cases h
  | n + 1, .exf _ _, _, h => by unfold dat at h; cases h
  | n + 1, .tpn _, _, h => by unfold dat at h; cases h
  | n + 1, .cxd _ _ _, _, h => by unfold dat at h; cases h
  | n + 1, .dic _, _, h => by unfold dat at h; cases h
  | n + 1, .key _, _, h => by unfold dat at h; cases h
  | n + 1, .mdt _, _, h => by unfold dat at h; cases h
  | n + 1, .obj _ _, _, h => by unfold dat at h; cases h
  | n + 1, .tup ds, q, h => by
    unfold dat at h ⊢
    cases e : datL st n ds with
    | none => rw [e] at h; cases h
    | some qs => rw [datL_up st n ds qs e]; rw [e] at h; exact h
  | n + 1, .mu l, q, h => by
    unfold dat at h ⊢
    cases e1 : st[l]? with
    | none => rw [e1] at h; cases h
    | some ds =>
      rw [e1] at h
      replace h : (datL st n ds).map PyData.list = some q := h
      cases e : datL st n ds with
      | none => rw [e] at h; cases h
      | some qs =>
        show (datL st (n + 1) ds).map PyData.list = some q
        rw [datL_up st n ds qs e]; rw [e] at h; exact h
theorem datL_up (st : Sto) : ∀ (n : Nat) (ds : List D) (qs : List PyData), datL st n ds = some qs → datL st (n + 1) ds = some qs
  | _, [], _, h => by unfold datL at h ⊢; exact h
  | n, d :: ds, qs, h => by
    unfold datL at h ⊢
    cases e1 : dat st n d with
    | none => rw [e1] at h; cases h
    | some q =>
      cases e2 : datL st n ds with
      | none => rw [e1, e2] at h; cases h
      | some rs =>
        rw [dat_up st n d q e1, datL_up st n ds rs e2]
        rw [e1, e2] at h; exact h
end
/-! ### stores that go on -/
def FB (B : Nat → Prop) (st st' : Sto) : Prop := st.length ≤ st'.length ∧ ∀ l, l < st.length → ¬ B l → st'[l]? = st[l]?
theorem FB.refl {B : Nat → Prop} {st : Sto} : FB B st st := ⟨Nat.le_refl _, fun _ _ _ => rfl⟩
theorem FB.trans {B : Nat → Prop} {a b c : Sto} (h : FB B a b) (h2 : FB B b c) : FB B a c := ⟨Nat.le_trans h.1 h2.1, fun l hl hp => (h2.2 l (Nat.lt_of_lt_of_le hl h.1) hp).trans (h.2 l hl hp)⟩
theorem FB.app {B : Nat → Prop} {a : Sto} (j : Sto) : FB B a (a ++ j) := ⟨by simp, fun l hl _ => List.getElem?_append_left hl⟩
structure Kp (B : Nat → Prop) (st : Sto) (n W : Nat) (d : D) : Prop where
  ex : ∃ q, Rq q ∧ q.weight ≤ W ∧ ∀ st', FB B st st' → dat st' n d = some q
structure KL (B : Nat → Prop) (st : Sto) (n W : Nat) (ds : List D) : Prop where
  ex : ∃ qs, (∀ q ∈ qs, Rq q) ∧ wts qs ≤ W ∧ ∀ st', FB B st st' → datL st' n ds = some qs
section
variable {B : Nat → Prop} {st st' : Sto} {n W V : Nat} {d : D} {ds es : List D}
theorem Kp.mono (h : Kp B st n W d) (f : FB B st st') : Kp B st' n W d := by
  obtain ⟨q, a, b, c⟩ := h.ex
  exact ⟨q, a, b, fun s hs => c s (f.trans hs)⟩
theorem KL.mono (h : KL B st n W ds) (f : FB B st st') : KL B st' n W ds := by
  obtain ⟨q, a, b, c⟩ := h.ex
  exact ⟨q, a, b, fun s hs => c s (f.trans hs)⟩
theorem Kp.up1 (h : Kp B st n W d) : Kp B st (n + 1) W d := by
  obtain ⟨q, a, b, c⟩ := h.ex
  exact ⟨q, a, b, fun s hs => dat_up s n d q (c s hs)⟩
theorem Kp.up (h : Kp B st n W d) {m : Nat} (hm : n ≤ m) {V : Nat} (hV : W ≤ V) : Kp B st m V d := by
  obtain ⟨k, rfl⟩ : ∃ k, m = n + k := ⟨m - n, by omega⟩
  induction k with
  | zero =>
    obtain ⟨q, a, b, c⟩ := h.ex
    exact ⟨q, a, Nat.le_trans b hV, c⟩
  | succ k ih => exact (ih (by omega)).up1
theorem KL.up1 (h : KL B st n W ds) : KL B st (n + 1) W ds := by
  obtain ⟨q, a, b, c⟩ := h.ex
  exact ⟨q, a, b, fun s hs => datL_up s n ds q (c s hs)⟩
theorem KL.up (h : KL B st n W ds) {m : Nat} (hm : n ≤ m) {V : Nat} (hV : W ≤ V) : KL B st m V ds := by
  obtain ⟨k, rfl⟩ : ∃ k, m = n + k := ⟨m - n, by omega⟩
  induction k with
  | zero =>
    obtain ⟨q, a, b, c⟩ := h.ex
    exact ⟨q, a, Nat.le_trans b hV, c⟩
  | succ k ih => exact (ih (by omega)).up1
theorem Kp.non : Kp B st (n + 1) W .non := ⟨.none, ⟨rfl, rfl, rfl⟩, by unfold PyData.weight; omega, fun s _ => by simp [dat]⟩
theorem Kp.bl (b : Bool) : Kp B st (n + 1) W (.bl b) := ⟨.bool b, ⟨rfl, rfl, rfl⟩, by unfold PyData.weight; omega, fun s _ => by simp [dat]⟩
theorem Kp.int {i : Int} (h : i.natAbs < 2 ^ W) (hW : W ≤ 110) : Kp B st (n + 1) W (.int i) :=
  ⟨.int i, Rq.int (Nat.lt_of_lt_of_le h (Nat.pow_le_pow_right (by decide) hW)), wt_int h, fun s _ => by simp [dat]⟩
theorem Kp.text {s : String} (h : s.length ≤ W) : Kp B st (n + 1) W (.str (Str.ofString s)) :=
  ⟨.str (Str.ofString s), Rq.text s, by
    unfold PyData.weight
    have := PySem.ofString_length s
    exact Nat.le_trans (Nat.le_of_eq this) h, fun s _ => by simp [dat]⟩
theorem KL.nil : KL B st n W [] := ⟨[], by simp, by simp [wts], fun s _ => by simp [datL]⟩
theorem KL.cons (h : Kp B st n W d) (t : KL B st n V ds) : KL B st n (W + 1 + V) (d :: ds) := by
  obtain ⟨q, a, b, c⟩ := h.ex
  obtain ⟨qs, a2, b2, c2⟩ := t.ex
  refine ⟨q :: qs, fun x hx => ?_, ?_, fun s hs => by simp [datL, c s hs, c2 s hs]⟩
  · rcases List.mem_cons.mp hx with rfl | hx
    · exact a
    · exact a2 x hx
  · simp only [wts, List.map_cons, List.sum_cons] at b2 ⊢; omega
theorem Kp.tup (h : KL B st n W ds) : Kp B st (n + 1) W (.tup ds) := by
  obtain ⟨qs, a, b, c⟩ := h.ex
  refine ⟨.tuple qs, Rq.tup a, ?_, fun s hs => by simp [dat, c s hs]⟩
  unfold PyData.weight
  rw [(rq_all a).2.2.2]; exact b
theorem Kp.lst {l : Nat} (h : KL B st n W ds) (hl : st[l]? = some ds) (hB : ¬ B l) : Kp B st (n + 1) W (.mu l) := by
  obtain ⟨qs, a, b, c⟩ := h.ex
  have ll := (List.getElem?_eq_some_iff.mp hl).1
  refine ⟨.list qs, Rq.lst a, ?_, fun s hs => ?_⟩
  · unfold PyData.weight
    rw [(rq_all a).2.2.2]; exact b
  · have : s[l]? = some ds := (hs.2 l ll hB).trans hl
    simp [dat, this, c s hs]
theorem datL_len : ∀ {ds : List D} {qs : List PyData}, datL st n ds = some qs → qs.length = ds.length
  | [], qs, h => by unfold datL at h; cases h; rfl
  | d :: ds, qs, h => by
    unfold datL at h
    cases e1 : dat st n d with
    | none => rw [e1] at h; cases h
    | some q =>
      cases e2 : datL st n ds with
      | none => rw [e1, e2] at h; cases h
      | some rs => rw [e1, e2] at h; cases h; simp [datL_len e2]
theorem datL_app : ∀ {ds es : List D} {qs rs : List PyData}, datL st n ds = some qs → datL st n es = some rs → datL st n (ds ++ es) = some (qs ++ rs)
  | [], es, qs, rs, h, h2 => by unfold datL at h; cases h; exact h2
  | d :: ds, es, qs, rs, h, h2 => by
    unfold datL at h
    cases e1 : dat st n d with
    | none => rw [e1] at h; cases h
    | some q =>
      cases e2 : datL st n ds with
      | none => rw [e1, e2] at h; cases h
      | some ts =>
        rw [e1, e2] at h; cases h
        have := datL_app e2 h2
        simp [datL, e1, this]
theorem datL_take : ∀ (k : Nat) {ds : List D} {qs : List PyData}, datL st n ds = some qs → datL st n (ds.take k) = some (qs.take k)
  | 0, ds, qs, h => by simp [datL]
  | k + 1, [], qs, h => by unfold datL at h; cases h; simp [datL]
  | k + 1, d :: ds, qs, h => by
    unfold datL at h
    cases e1 : dat st n d with
    | none => rw [e1] at h; cases h
    | some q =>
      cases e2 : datL st n ds with
      | none => rw [e1, e2] at h; cases h
      | some ts =>
        rw [e1, e2] at h; cases h
        have := datL_take k e2
        simp [datL, e1, this]
theorem datL_drop : ∀ (k : Nat) {ds : List D} {qs : List PyData}, datL st n ds = some qs → datL st n (ds.drop k) = some (qs.drop k)
  | 0, ds, qs, h => h
  | k + 1, [], qs, h => by unfold datL at h; cases h; simp [datL]
  | k + 1, d :: ds, qs, h => by
    unfold datL at h
    cases e1 : dat st n d with
    | none => rw [e1] at h; cases h
    | some q =>
      cases e2 : datL st n ds with
      | none => rw [e1, e2] at h; cases h
      | some ts =>
        rw [e1, e2] at h; cases h
        exact datL_drop k e2
theorem datL_rev : ∀ {ds : List D} {qs : List PyData}, datL st n ds = some qs → datL st n ds.reverse = some qs.reverse
  | [], qs, h => by unfold datL at h; cases h; simp [datL]
  | d :: ds, qs, h => by
    unfold datL at h
    cases e1 : dat st n d with
    | none => rw [e1] at h; cases h
    | some q =>
      cases e2 : datL st n ds with
      | none => rw [e1, e2] at h; cases h
      | some ts =>
        rw [e1, e2] at h; cases h
        rw [List.reverse_cons, List.reverse_cons]
        exact datL_app (datL_rev e2) (by simp [datL, e1])
theorem datL_get {d : D} : ∀ {ds : List D} {qs : List PyData}, datL st n ds = some qs → ∀ {k : Nat}, ds[k]? = some d → ∃ q, qs[k]? = some q ∧ dat st n d = some q
  | [], qs, h, k, e => by simp at e
  | x :: ds, qs, h, k, e => by
    unfold datL at h
    cases e1 : dat st n x with
    | none => rw [e1] at h; cases h
    | some q =>
      cases e2 : datL st n ds with
      | none => rw [e1, e2] at h; cases h
      | some ts =>
        rw [e1, e2] at h; cases h
        cases k with
        | zero => simp at e; subst e; exact ⟨q, rfl, e1⟩
        | succ k =>
          obtain ⟨r, h1, h2⟩ := datL_get e2 (k := k) (by simpa using e)
          exact ⟨r, by simpa using h1, h2⟩
theorem wts_app (a b : List PyData) : wts (a ++ b) = wts a + wts b := by simp [wts]
theorem wts_cut (k : Nat) (a : List PyData) : wts (a.take k) + wts (a.drop k) = wts a := by
  rw [← wts_app, List.take_append_drop]
theorem wts_rev (a : List PyData) : wts a.reverse = wts a := by
  induction a with
  | nil => rfl
  | cons x xs ih => rw [List.reverse_cons, wts_app, ih]; simp [wts]; omega
theorem KL.app (h : KL B st n W ds) (t : KL B st n V es) : KL B st n (W + V) (ds ++ es) := by
  obtain ⟨q, a, b, c⟩ := h.ex
  obtain ⟨qs, a2, b2, c2⟩ := t.ex
  exact ⟨q ++ qs, fun x hx => (List.mem_append.mp hx).elim (a x) (a2 x), by rw [wts_app]; omega, fun s hs => datL_app (c s hs) (c2 s hs)⟩
theorem KL.take (k : Nat) (h : KL B st n W ds) : KL B st n W (ds.take k) := by
  obtain ⟨q, a, b, c⟩ := h.ex
  exact ⟨q.take k, fun x hx => a x (List.mem_of_mem_take hx), by have := wts_cut k q; omega, fun s hs => datL_take k (c s hs)⟩
theorem KL.drop (k : Nat) (h : KL B st n W ds) : KL B st n W (ds.drop k) := by
  obtain ⟨q, a, b, c⟩ := h.ex
  exact ⟨q.drop k, fun x hx => a x (List.mem_of_mem_drop hx), by have := wts_cut k q; omega, fun s hs => datL_drop k (c s hs)⟩
theorem KL.rev (h : KL B st n W ds) : KL B st n W ds.reverse := by
  obtain ⟨q, a, b, c⟩ := h.ex
  exact ⟨q.reverse, fun x hx => a x (List.mem_reverse.mp hx), by rw [wts_rev]; exact b, fun s hs => datL_rev (c s hs)⟩
theorem wts_mem {q : PyData} : ∀ {qs : List PyData}, q ∈ qs → q.weight + 1 ≤ wts qs
  | x :: xs, h => by
    simp only [wts, List.map_cons, List.sum_cons]
    rcases List.mem_cons.mp h with rfl | h
    · omega
    · have := wts_mem h
      simp only [wts] at this
      omega
theorem KL.get (h : KL B st n W ds) {k : Nat} (hk : ds[k]? = some d) : Kp B st n W d := by
  obtain ⟨q, a, b, c⟩ := h.ex
  obtain ⟨r, e, _⟩ := datL_get (c st .refl) hk
  have hm := List.mem_of_getElem? e
  refine ⟨r, a r hm, by have := wts_mem hm; omega, fun s hs => ?_⟩
  obtain ⟨r2, e2, e3⟩ := datL_get (c s hs) hk
  rw [e] at e2; cases e2; exact e3
theorem Kp.tupI (h : Kp B st (n + 1) W (.tup ds)) : KL B st n W ds := by
  obtain ⟨q, a, b, c⟩ := h.ex
  have e0 := c st .refl
  unfold dat at e0
  cases e : datL st n ds with
  | none => rw [e] at e0; cases e0
  | some qs =>
    rw [e] at e0; cases e0
    have hq : ∀ x ∈ qs, Rq x := by
      have h1 : PyData.canLayAll0 qs = true := a.can
      have h2 : PyData.showableAll qs = true := a.sho
      have h3 : PyData.intsShortAll 150 qs = true := a.sht
      clear e c b a
      induction qs with
      | nil => intro x hx; cases hx
      | cons y ys ih =>
        have h1' : (y.canLay0 && PyData.canLayAll0 ys) = true := h1
        have h2' : (y.showable && PyData.showableAll ys) = true := h2
        have h3' : (y.intsShort 150 && PyData.intsShortAll 150 ys) = true := h3
        rw [Bool.and_eq_true] at h1' h2' h3'
        intro x hx
        rcases List.mem_cons.mp hx with rfl | hx
        · exact ⟨h1'.1, h2'.1, h3'.1⟩
        · exact ih h1'.2 h2'.2 h3'.2 x hx
    refine ⟨qs, hq, ?_, fun s hs => ?_⟩
    · unfold PyData.weight at b
      rw [(rq_all hq).2.2.2] at b; exact b
    · have := c s hs
      unfold dat at this
      cases e2 : datL s n ds with
      | none => rw [e2] at this; cases this
      | some rs => rw [e2] at this; cases this; rfl
end
theorem rep_of {st : Sto} {d : D} {q : PyData} (h : dat st 64 d = some q) (r : Rq q) (w : q.weight ≤ 100000) : fReprA [d] st = some (.str q.shown, st) := by
  have hz : q.shown.length ≤ sizeLine := by
    have := PyData.shown_le 150 (by decide) q (PyData.leavesShort_of_canLay0 150 q r.can r.sht)
    have e : sizeLine = 16777216 := rfl
    rw [e]
    have : (150 + 2) * q.weight ≤ 152 * 100000 := Nat.mul_le_mul_left _ (by omega)
    omega
  have go : fRepr [d] st = some (.str q.shown, st) := by
    unfold fRepr
    simp only [h, Option.bind_some]
    rw [if_pos ⟨r.can, r.sho, hz⟩]
  cases d with
  | dic => unfold dat at h; cases h
  | _ => exact go
def Kr (B : Nat → Prop) (st : Sto) (d : D) : Prop := ∃ t : Str, ∀ st', FB B st st' → fReprA [d] st' = some (.str t, st')
theorem Kp.kr {B : Nat → Prop} {st : Sto} {n W : Nat} {d : D} (h : Kp B st n W d) (hn : n ≤ 64) (hW : W ≤ 100000) : Kr B st d := by
  obtain ⟨q, a, b, c⟩ := (h.up hn (Nat.le_refl W)).ex
  exact ⟨q.shown, fun s hs => rep_of (c s hs) a (Nat.le_trans b hW)⟩
theorem Kr.mono {B : Nat → Prop} {st st' : Sto} {d : D} (h : Kr B st d) (f : FB B st st') : Kr B st' d := by
  obtain ⟨t, c⟩ := h
  exact ⟨t, fun s hs => c s (f.trans hs)⟩
theorem rep_bls {st : Sto} {l : Nat} {b : Bool} (h : st[l]? = some [.bl b, .bl b]) : fReprA [.mu l] st = some (.str (PyData.list [.bool b, .bool b]).shown, st) := by
  refine rep_of (by simp [dat, h, datL]) (Rq.lst fun q hq => ?_) (by simp [PyData.weight, PyData.weightAll])
  simp at hq; subst hq; exact ⟨rfl, rfl, rfl⟩
end M2
set_option Elab.async false
set_option linter.all false
set_option maxRecDepth 100000
set_option maxHeartbeats 2000000
namespace M2
open PySem PySem.Spec PyProof.Rows L2
open Classical
variable [Tb]
/-! ### displays of good values -/
section
variable {B : Nat → Prop} {st0 : Sto} {en : En} {n k W V : Nat} {m : MM D} {ms : List (MM D)}
/-- few tuples in a tuple -/
def Few (d : D) : Prop := ∀ ds, d = .tup ds → (ds.filter tupB).length ≤ 90
theorem few_n {d : D} (h : tupB d = false) : Few d := fun ds e => by rw [e] at h; cases h
theorem few_t {ds : List D} (h : ds.length ≤ 90) : Few (.tup ds) := fun es e => by
  cases e
  exact Nat.le_trans (List.length_filter_le _ _) h
def KrF (B : Nat → Prop) (st : Sto) (d : D) : Prop := Kr B st d ∧ Few d
theorem KrF.mono {B : Nat → Prop} {st st' : Sto} {d : D} (h : KrF B st d) (f : FB B st st') : KrF B st' d := ⟨h.1.mono f, h.2⟩
def Gd (B : Nat → Prop) (st0 : Sto) (en : En) (n W : Nat) (m : MM D) : Prop := ∀ st, FB B st0 st → ∃ d j, m en st = some (.ok d, st ++ j) ∧ Ok d ∧ Kp B (st ++ j) n W d ∧ Few d
def GdA (B : Nat → Prop) (st0 : Sto) (en : En) (n W k : Nat) (ms : List (MM D)) : Prop := ∀ st, FB B st0 st → ∃ ds j, mArgs ms en st = some (.ok ds, st ++ j) ∧ (∀ x ∈ ds, Ok x) ∧ KL B (st ++ j) n W ds ∧ ds.length = k
theorem Gd.up {a b : Nat} (h : Gd B st0 en a b m) (h1 : a ≤ n) (h2 : b ≤ W) : Gd B st0 en n W m := fun st hs => by
  obtain ⟨d, j, e, o, q, f⟩ := h st hs
  exact ⟨d, j, e, o, q.up h1 h2, f⟩
theorem gd_int {i : Int} (h : i.natAbs < 2 ^ 41) : Gd B st0 en (n + 1) 41 (ret (.int i)) := fun st _ => ⟨.int i, [], by simp, .int i, Kp.int h (by decide), few_n rfl⟩
theorem gd_neg {i : Int} (h : i.natAbs < 2 ^ 41) : Gd B st0 en (n + 1) 41 (mNeg (ret (.int i))) := fun st _ => ⟨.int (-i), [], by simp, .int _, Kp.int (by rw [Int.natAbs_neg]; exact h) (by decide), few_n rfl⟩
theorem gd_pow : Gd B st0 en (n + 1) 41 (mOp fPow (ret (.int 10)) (ret (.int 12))) := fun st _ => ⟨.int 1000000000000, [], by simp [fPow, iop], .int _, Kp.int (by decide) (by decide), few_n rfl⟩
theorem gd_non : Gd B st0 en (n + 1) 41 (ret .non) := fun st _ => ⟨.non, [], by simp, .non, Kp.non, few_n rfl⟩
theorem gd_bl {b : Bool} : Gd B st0 en (n + 1) 41 (ret (.bl b)) := fun st _ => ⟨.bl b, [], by simp, .bl b, Kp.bl b, few_n rfl⟩
theorem gd_str {s : String} (h : s.length ≤ 41) : Gd B st0 en (n + 1) 41 (ret (.str (Str.ofString s))) := fun st _ => ⟨.str _, [], by simp, .str _, Kp.text h, few_n rfl⟩
theorem gd_var {i : Nat} {d : D} (hi : en[i]? = some (some d)) (o : Ok d) (q : Kp B st0 n W d) (f : Few d) : Gd B st0 en n W (mVar i) := fun st hs => ⟨d, [], by simp [hi], o, by simpa using q.mono hs, f⟩
theorem gds_nil : GdA B st0 en n 0 0 [] := fun st _ => ⟨[], [], by simp, by simp, KL.nil, rfl⟩
theorem gds_cons (h : Gd B st0 en n W m) (t : GdA B st0 en n V k ms) : GdA B st0 en n (W + 1 + V) (k + 1) (m :: ms) := fun st hs => by
  obtain ⟨d, j, e, o, q, _⟩ := h st hs
  obtain ⟨ds, j2, e2, o2, q2, l2⟩ := t (st ++ j) (hs.trans (FB.app j))
  refine ⟨d :: ds, j ++ j2, ?_, fun x hx => (List.mem_cons.mp hx).elim (fun z => z ▸ o) (o2 x), ?_, by simp [l2]⟩
  · rw [u_mArgs1, u_bnd, e]
    simp only [u_bnd, e2, u_ret, List.append_assoc]
  · rw [← List.append_assoc]; exact KL.cons (q.mono (FB.app j2)) q2
theorem gd_tup (h : GdA B st0 en n W k ms) (hk : k ≤ 90) : Gd B st0 en (n + 1) W (mTup ms) := fun st hs => by
  obtain ⟨ds, j, e, o, q, l⟩ := h st hs
  refine ⟨.tup ds, j, ?_, .tup o (by omega), .tup q, few_t (by omega)⟩
  rw [u_mTup, u_bnd, e]
  have : ds.length < 100000 := by omega
  simp only [u_lft, this, if_true, Option.map_some]
theorem gd_lst (hB : ∀ l, B l → l < st0.length) (h : GdA B st0 en n W k ms) (hk : k ≤ 90000) : Gd B st0 en (n + 1) W (mLst ms) := fun st hs => by
  obtain ⟨ds, j, e, o, q, l⟩ := h st hs
  refine ⟨.mu (st ++ j).length, j ++ [ds], ?_, .mu _, ?_, few_n rfl⟩
  · rw [u_mLst, u_bnd, e]
    have : ds.length < 100000 := by omega
    simp only [u_mNewL, u_stm, this, if_true, Option.map_some, List.append_assoc]
  · rw [← List.append_assoc]
    refine Kp.lst (q.mono (FB.app [ds])) at0 fun hb => ?_
    have := hB _ hb
    have := hs.1
    simp at *
    omega
theorem KL.rep {st : Sto} {d : D} (h : Kp B st n W d) : ∀ k : Nat, KL B st n ((W + 1) * k) (List.replicate k d)
  | 0 => KL.nil
  | k + 1 => by
    have := KL.cons h (KL.rep h k)
    rw [List.replicate_succ]
    exact this.up (Nat.le_refl _) (by rw [Nat.mul_succ]; omega)
theorem gd_mul {c : Nat} (h : Gd B st0 en n W m) (h2 : 2 ≤ c) (hc : c ≤ 90) : Gd B st0 en (n + 1) ((W + 1) * c) (mOp fMulA (mTup [m]) (ret (.int (c : Int)))) := fun st hs => by
  obtain ⟨d, j, e, o, q, _⟩ := h st hs
  refine ⟨.tup (List.replicate c d), j, ?_, .tup (fun x hx => by rw [(List.mem_replicate.mp hx).2]; exact o) (by simp; omega), .tup (KL.rep q c), few_t (by simpa using hc)⟩
  rw [u_mOp, u_bnd, u_mTup, u_bnd, u_mArgs1, u_bnd, e]
  have g : ([d] : List D) ≠ [] ∧ 2 ≤ (c : Int) ∧ [d].length * (c : Int).toNat ≤ 100000 := ⟨by simp, by omega, by simp; omega⟩
  have e2 : ∀ s, fMulA (.tup [d]) (.int (c : Int)) s = some (.tup (List.replicate c d), s) := fun s => by
    unfold fMulA
    simp only []
    rw [if_pos g]
    simp
  have z : (1 : Nat) < 100000 := by decide
  simp only [u_bnd, u_mArgs0, u_ret, List.length_cons, List.length_nil, Nat.zero_add, z, if_true, u_lft, u_stm, Option.map_some, e2]
theorem gd_mulI {c : Nat} {i : Int} (hm : m = ret (.int i)) (h : Gd B st0 en n W m) (h2 : 2 ≤ c) (hc : c ≤ 90000) : Gd B st0 en (n + 1) ((W + 1) * c) (mOp fMulA (mTup [m]) (ret (.int (c : Int)))) := fun st hs => by
  obtain ⟨d, j, e, o, q, _⟩ := h st hs
  have hd : tupB d = false := by
    rw [hm, u_ret] at e
    have e' : D.int i = d := by injection e with e; injection e with e _; injection e
    rw [← e']; rfl
  refine ⟨.tup (List.replicate c d), j, ?_, .tup (fun x hx => by rw [(List.mem_replicate.mp hx).2]; exact o) (by simp; omega), .tup (KL.rep q c), fun ds e => ?_⟩
  rotate_left
  · cases e
    rw [List.filter_eq_nil_iff.mpr (fun x hx => by rw [(List.mem_replicate.mp hx).2, hd]; exact Bool.false_ne_true)]; exact Nat.zero_le _
  rw [u_mOp, u_bnd, u_mTup, u_bnd, u_mArgs1, u_bnd, e]
  have g : ([d] : List D) ≠ [] ∧ 2 ≤ (c : Int) ∧ [d].length * (c : Int).toNat ≤ 100000 := ⟨by simp, by omega, by simp; omega⟩
  have e2 : ∀ s, fMulA (.tup [d]) (.int (c : Int)) s = some (.tup (List.replicate c d), s) := fun s => by
    unfold fMulA
    simp only []
    rw [if_pos g]
    simp
  have z : (1 : Nat) < 100000 := by decide
  simp only [u_bnd, u_mArgs0, u_ret, List.length_cons, List.length_nil, Nat.zero_add, z, if_true, u_lft, u_stm, Option.map_some, e2]
/-! ### things at the top: dicts too -/
def Gk (B : Nat → Prop) (st0 : Sto) (en : En) (m : MM D) : Prop := ∀ st, FB B st0 st → ∃ d j, m en st = some (.ok d, st ++ j) ∧ Ok d ∧ KrF B (st ++ j) d
def GkA (B : Nat → Prop) (st0 : Sto) (en : En) (k : Nat) (ms : List (MM D)) : Prop := ∀ st, FB B st0 st → ∃ ds j, mArgs ms en st = some (.ok ds, st ++ j) ∧ (∀ x ∈ ds, Ok x ∧ KrF B (st ++ j) x) ∧ ds.length = k
theorem gk_of (h : Gd B st0 en n W m) (hn : n ≤ 64) (hW : W ≤ 100000) : Gk B st0 en m := fun st hs => by
  obtain ⟨d, j, e, o, q, f⟩ := h st hs
  exact ⟨d, j, e, o, q.kr hn hW, f⟩
theorem gks_nil : GkA B st0 en 0 [] := fun st _ => ⟨[], [], by simp, by simp, rfl⟩
theorem gks_cons (h : Gk B st0 en m) (t : GkA B st0 en k ms) : GkA B st0 en (k + 1) (m :: ms) := fun st hs => by
  obtain ⟨d, j, e, o, q⟩ := h st hs
  obtain ⟨ds, j2, e2, o2, l2⟩ := t (st ++ j) (hs.trans (FB.app j))
  refine ⟨d :: ds, j ++ j2, ?_, fun x hx => ?_, by simp [l2]⟩
  · rw [u_mArgs1, u_bnd, e]
    simp only [u_bnd, e2, u_ret, List.append_assoc]
  · rw [← List.append_assoc]
    rcases List.mem_cons.mp hx with rfl | hx
    · exact ⟨o, q.mono (FB.app j2)⟩
    · exact o2 x hx
theorem gk_dic0 : Gk B st0 en mDic0 := fun st _ => ⟨.dic [], [], by simp [mDic0], .dic _, ⟨(dicP [] []).shown, fun s _ => by
  show (datL s 62 []).bind _ = _
  have : datL s 62 [] = some [] := by simp [datL]
  rw [this]
  simp only [Option.bind_some]
  rw [if_pos ⟨rfl, rfl, by decide +kernel⟩]
  rfl⟩, few_n rfl⟩
theorem gk_dicC : Gk B st0 en (mDic1 (.inl 0) (ret (.int 1))) := fun st _ => ⟨.dic [(.inl 0, .int 1)], [], by simp [mDic1], .dic _, ⟨(dicP [.inl 0] [.int 1]).shown, fun s _ => by
  show (datL s 62 [.int 1]).bind _ = _
  have : datL s 62 [.int 1] = some [.int 1] := by simp [datL, dat]
  rw [this]
  simp only [Option.bind_some]
  rw [if_pos ⟨rfl, by decide +kernel, by decide +kernel⟩]
  rfl⟩, few_n rfl⟩
/-- a list of such things, laid last -/
def GL (st : Sto) (L : Nat) (r : Option (Except Er D × Sto)) : Prop := ∃ s ds, r = some (.ok (.mu s.length), s ++ [ds]) ∧ FB (fun _ => False) st s ∧ (∃ j, s = st ++ j) ∧ ds.length ≤ L ∧ ∀ x ∈ ds, Ok x ∧ KrF (fun _ => False) s x
theorem FB.weak {B C : Nat → Prop} {a b : Sto} (h : FB B a b) (i : ∀ l, l < a.length → B l → C l) : FB C a b := ⟨h.1, fun l hl hc => h.2 l hl fun hb => hc (i l hl hb)⟩
theorem Kr.weak {B C : Nat → Prop} {st : Sto} {d : D} (h : Kr C st d) (i : ∀ l, l < st.length → B l → C l) : Kr B st d := by
  obtain ⟨t, c⟩ := h
  exact ⟨t, fun s hs => c s (hs.weak i)⟩
theorem gl_lst {st : Sto} (h : GkA (fun _ => False) st en k ms) (hk : k ≤ 90000) : GL st k (mLst ms en st) := by
  obtain ⟨ds, j, e, o, l⟩ := h st .refl
  refine ⟨st ++ j, ds, ?_, FB.app j, ⟨j, rfl⟩, Nat.le_of_eq l, o⟩
  rw [u_mLst, u_bnd, e]
  have : ds.length < 100000 := by omega
  simp only [u_mNewL, u_stm, this, if_true, Option.map_some]
/-- two lists put together -/
theorem gl_cat {st s1 : Sto} {l1 : Nat} {L1 L2 : Nat} {ds : List D} {ma mb : MM D} (h1 : ma en st = some (.ok (.mu l1), s1)) (f1 : ∃ j, s1 = st ++ j) (g1 : s1[l1]? = some ds) (ld : ds.length ≤ L1) (hd : ∀ x ∈ ds, Ok x ∧ KrF (fun _ => False) s1 x)
    (h2 : GL s1 L2 (mb en s1)) (hL : L1 + L2 ≤ 90000) : GL st (L1 + L2) (mOp fAddB ma mb en st) := by
  obtain ⟨s2, es, e2, f2, ⟨j2, rfl⟩, le, he⟩ := h2
  obtain ⟨j1, hj1⟩ := f1
  have c1 : (s1 ++ j2 ++ [es])[l1]? = some ds := by rw [List.append_assoc]; exact at_app g1 _
  have c2 : (s1 ++ j2 ++ [es])[(s1 ++ j2).length]? = some es := at0
  have c3 : ds.length + es.length < 100000 := by omega
  refine ⟨s1 ++ j2 ++ [es], ds ++ es, ?_, ?_, ⟨j1 ++ j2 ++ [es], by rw [hj1]; simp⟩, by simp; omega, fun x hx => ?_⟩
  · rw [u_mOp, u_bnd, h1]
    simp only [u_bnd, e2, u_stm, u_addBm, u_addM, c1, c2, c3, if_true, Option.map_some]
  · rw [hj1, List.append_assoc, List.append_assoc]; exact FB.app _
  · rcases List.mem_append.mp hx with hx | hx
    · exact ⟨(hd x hx).1, (hd x hx).2.mono (by rw [List.append_assoc]; exact FB.app _)⟩
    · exact ⟨(he x hx).1, (he x hx).2.mono (FB.app _)⟩
end
end M2
set_option Elab.async false
set_option linter.all false
set_option maxRecDepth 100000
set_option maxHeartbeats 4000000
namespace M2
open PySem PySem.Spec PyProof.Rows L2
open Classical
variable [Tb]
theorem GL.from {st s1 : Sto} {L : Nat} {r : Option (Except Er D × Sto)} (h : GL s1 L r) (p : ∃ j, s1 = st ++ j) : GL st L r := by
  obtain ⟨s, ds, e, f, ⟨j, hj⟩, l, g⟩ := h
  obtain ⟨i, hi⟩ := p
  refine ⟨s, ds, e, ?_, ⟨i ++ j, by rw [hj, hi]; simp⟩, l, g⟩
  rw [hj, hi, List.append_assoc]; exact FB.app _
theorem gl_more {st s : Sto} {ds : List D} {v : Nat} {en : En} {L1 L2 : Nat} {mb : MM D} (p : ∃ j, s = st ++ j) (l : ds.length ≤ L1) (g : ∀ x ∈ ds, Ok x ∧ KrF (fun _ => False) s x) (hv : en[v]? = some (some (.mu s.length)))
    (h2 : GL (s ++ [ds]) L2 (mb en (s ++ [ds]))) (hL : L1 + L2 ≤ 90000) : GL st (L1 + L2) (mOp fAddB (mVar v) mb en (s ++ [ds])) := by
  obtain ⟨j, hj⟩ := p
  refine GL.from (gl_cat (s1 := s ++ [ds]) (st := s ++ [ds]) (l1 := s.length) (ds := ds) (by simp [hv]) ⟨[], by simp⟩ at0 l (fun x hx => ⟨(g x hx).1, (g x hx).2.mono (FB.app _)⟩) h2 hL) ⟨j ++ [ds], by rw [hj]; simp⟩
theorem gl_app {s : Sto} {ds : List D} {v : Nat} {en : En} {L1 : Nat} {m : MM D} {x : D} (l : ds.length ≤ L1) (g : ∀ x ∈ ds, Ok x ∧ KrF (fun _ => False) s x) (hv : en[v]? = some (some (.mu s.length))) (hg : Gk (fun _ => False) s en m)
    (hx : ∀ st, m en st = some (.ok x, st)) (hL : L1 ≤ 90000 := by decide) : ∃ es, (∀ k : MS, sSeq (sExpr (mApp (mVar v) m)) k en (s ++ [ds]) = k en (s ++ [es])) ∧ es.length ≤ L1 + 1 ∧ ∀ y ∈ es, Ok y ∧ KrF (fun _ => False) s y := by
  obtain ⟨d, j, e, o, q⟩ := hg s .refl
  rw [hx s] at e
  have e1 : x = d := by injection e with e; injection e with e _; injection e
  have e2 : s = s ++ j := by injection e with e; injection e
  rw [← e2] at q
  subst e1
  refine ⟨ds ++ [x], fun k => ?_, by simp; omega, fun y hy => ?_⟩
  · rw [u_sSeq]
    have a1 : (s ++ [ds])[s.length]? = some ds := at0
    have a2 : ds.length < 100000 := by omega
    simp [hv, hx, locD, a1, a2]
  · rcases List.mem_append.mp hy with hy | hy
    · exact g y hy
    · simp at hy; subst hy; exact ⟨o, q⟩
theorem ok4 {a b c d : D} (h : ∀ x ∈ [a, b, c, d], Ok x) : Ok a ∧ Ok b ∧ Ok c ∧ Ok d := ⟨h a (by simp), h b (by simp), h c (by simp), h d (by simp)⟩
theorem ok3 {a b c : D} (h : ∀ x ∈ [a, b, c], Ok x) : Ok a ∧ Ok b ∧ Ok c := ⟨h a (by simp), h b (by simp), h c (by simp)⟩
theorem tup_of {x : D} (h : tupB x = true) : ∃ xs, x = .tup xs := by
  cases x with
  | tup xs => exact ⟨xs, rfl⟩
  | _ => cases h
theorem ok_tup {xs : List D} (h : Ok (.tup xs)) : (∀ x ∈ xs, Ok x) ∧ xs.length ≤ 90000 := by
  cases h with
  | tup h1 h2 => exact ⟨h1, h2⟩
theorem int_of {lo hi : Int} {o : D} (h : whB lo hi o = true) : ∃ i, o = .int i ∧ lo ≤ i ∧ i ≤ hi := by
  cases o with
  | int i => simp [whB] at h; exact ⟨i, rfl, h.1, h.2⟩
  | _ => cases h
/-- the arities' number at an operator -/
theorem ar_at {as : List D} {i : Int} (ha : ∀ a ∈ as, ∃ k, a = .int k) (h0 : 0 ≤ i) (h1 : i ≤ (as.length : Int) - 1) : ∃ k, as[i.toNat]? = some (.int k) ∧ atI as i = some (.int k) := by
  have hl : i.toNat < as.length := by omega
  obtain ⟨k, hk⟩ := ha as[i.toNat] (List.getElem_mem _)
  refine ⟨k, by rw [List.getElem?_eq_getElem hl, hk], atI_ok h0 (by rw [List.getElem?_eq_getElem hl, hk])⟩
def deepD : Nat → D
  | 0 => .tup [.int 0]
  | i + 1 => .tup [deepD i, .int 0]
def deepP : Nat → PyData
  | 0 => .tuple [.int 0]
  | i + 1 => .tuple [deepP i, .int 0]
theorem deep_dat (st : Sto) : ∀ i : Nat, dat st (i + 2) (deepD i) = some (deepP i)
  | 0 => by simp [deepD, deepP, dat, datL]
  | i + 1 => by
    have := deep_dat st i
    show dat st (i + 2 + 1) (.tup [deepD i, .int 0]) = some (.tuple [deepP i, .int 0])
    simp [dat, datL, this]
theorem deep_ok : ∀ i : Nat, Ok (deepD i)
  | 0 => .tup (fun x hx => by simp at hx; subst hx; exact .int _) (by simp)
  | i + 1 => .tup (fun x hx => by
    simp at hx
    rcases hx with rfl | rfl
    · exact deep_ok i
    · exact .int _) (by simp)
theorem deep_kp {B : Nat → Prop} (st : Sto) : ∀ i : Nat, Kp B st (i + 2) (42 + 43 * i) (deepD i)
  | 0 => (Kp.tup (KL.cons (W := 41) (Kp.int (by decide) (by decide)) (KL.nil (W := 0)))).up (Nat.le_refl _) (by decide)
  | i + 1 => (Kp.tup (KL.cons (deep_kp st i) (KL.cons (W := 41) (Kp.int (by decide) (by decide)) (KL.nil (W := 0))))).up (Nat.le_refl _) (by omega)
theorem odeep : Ok (deepD 16) := deep_ok 16
theorem fdeep : Few (deepD 16) := few_t (by show 2 ≤ 90; decide)
theorem qdeep {B : Nat → Prop} {n : Nat} (st : Sto) : Kp B st (n + 18) 730 (deepD 16) := (deep_kp st 16).up (by omega) (by decide)
theorem up62 {st : Sto} {d : D} {q : PyData} {n : Nat} (h : dat st n d = some q) (k : Nat) : dat st (n + k) d = some q := by
  induction k with
  | zero => exact h
  | succ k ih => exact dat_up st (n + k) d q ih
theorem gk_dicV {B : Nat → Prop} {st0 : Sto} {x : Option D} : Gk B st0 [some (deepD 16), x] (mDic1 (.inr (Str.ofString "0")) (mVar 0)) := fun st _ => ⟨.dic [(.inr (Str.ofString "0"), deepD 16)], [], by simp [mDic1], .dic _, ⟨(dicP [.inr (Str.ofString "0")] [deepP 16]).shown, fun s _ => by
  show (datL s 62 [deepD 16]).bind _ = _
  have e : dat s 62 (deepD 16) = some (deepP 16) := up62 (deep_dat s 16) 44
  have : datL s 62 [deepD 16] = some [deepP 16] := by simp [datL, e]
  rw [this]
  simp only [Option.bind_some]
  rw [if_pos ⟨by decide +kernel, by decide +kernel, by decide +kernel⟩]
  rfl⟩, few_n rfl⟩
theorem gk_lmul {st0 : Sto} {en : En} : Gk (fun _ => False) st0 en (mOp fMulA (mLst [(mTup [(ret (.int 0))])]) (ret (.int 900))) := fun st hs => by
  have q : ∀ s : Sto, KL (fun _ => False) s 2 38700 (List.replicate 900 (D.tup [.int 0])) := fun s => (KL.rep (Kp.tup (KL.cons (W := 41) (Kp.int (by decide) (by decide)) (KL.nil (W := 0)))) 900).up (Nat.le_refl _) (by decide)
  have e : mOp fMulA (mLst [(mTup [(ret (.int 0))])]) (ret (.int 900)) en st = some (.ok (.mu (st ++ [[D.tup [.int 0]]]).length), st ++ [[D.tup [.int 0]]] ++ [List.replicate 900 (D.tup [.int 0])]) := by
    have z : (1 : Nat) < 100000 := by decide
    have a1 : (st ++ [[D.tup [.int 0]]])[st.length]? = some [D.tup [.int 0]] := at0
    have a2 : fMulA (.mu st.length) (.int 900) (st ++ [[D.tup [.int 0]]]) = some (.mu (st ++ [[D.tup [.int 0]]]).length, st ++ [[D.tup [.int 0]]] ++ [List.replicate 900 (D.tup [.int 0])]) := by
      rw [u_mulL]
      unfold fMul
      simp only [a1]
      rw [if_pos (by simp)]
      simp
    simp only [u_mOp, u_bnd, u_mLst, u_mArgs1, u_mArgs0, u_mTup, u_ret, u_lft, List.length_cons, List.length_nil, Nat.zero_add, z, if_true, Option.map_some, u_mNewL, u_stm, a2]
  refine ⟨_, [[D.tup [.int 0]]] ++ [List.replicate 900 (D.tup [.int 0])], by rw [e, List.append_assoc], .mu _, ?_, few_n rfl⟩
  rw [← List.append_assoc]
  exact (Kp.lst (B := fun _ => False) (q _) at0 (fun h => h)).kr (by decide) (by decide)
/-- small numbers -/
def Sm (i : Int) : Prop := 0 ≤ i ∧ i ≤ 31
/-- the numbers within tuples are small -/
inductive In (c : Nat) : D → Prop
  | non : In c .non
  | bl (b) : In c (.bl b)
  | int {i} : i.natAbs ≤ c → In c (.int i)
  | str (x) : In c (.str x)
  | mu (l) : In c (.mu l)
  | dic (kvs) : In c (.dic kvs)
  | tup {ds} : (∀ x ∈ ds, In c x) → In c (.tup ds)
/-- values of small numbers alone, of a depth and a weight -/
structure Pure (n W : Nat) (d : D) : Prop where
  ok : Ok d
  kp : ∀ (B : Nat → Prop) (st : Sto), Kp B st n W d
  inn : In 31 d
structure PureL (n W : Nat) (ds : List D) : Prop where
  ok : ∀ x ∈ ds, Ok x
  kl : ∀ (B : Nat → Prop) (st : Sto), KL B st n W ds
  inn : ∀ x ∈ ds, In 31 x
theorem Pure.int {i : Int} {n : Nat} (h : Sm i) : Pure (n + 1) 5 (.int i) := ⟨.int i, fun B st => Kp.int (by have := h.1; have := h.2; omega) (by decide), .int (by have := h.1; have := h.2; omega)⟩
theorem PureL.nil {n W : Nat} : PureL n W [] := ⟨by simp, fun _ _ => KL.nil, by simp⟩
theorem PureL.cons {n W V : Nat} {d : D} {ds : List D} (h : Pure n W d) (t : PureL n V ds) : PureL n (W + 1 + V) (d :: ds) := ⟨fun x hx => (List.mem_cons.mp hx).elim (fun z => z ▸ h.ok) (t.ok x), fun B st => KL.cons (h.kp B st) (t.kl B st), fun x hx => (List.mem_cons.mp hx).elim (fun z => z ▸ h.inn) (t.inn x)⟩
theorem PureL.up {n W m V : Nat} {ds : List D} (h : PureL n W ds) (h1 : n ≤ m) (h2 : W ≤ V) : PureL m V ds := ⟨h.ok, fun B st => (h.kl B st).up h1 h2, h.inn⟩
theorem Pure.up {n W m V : Nat} {d : D} (h : Pure n W d) (h1 : n ≤ m) (h2 : W ≤ V) : Pure m V d := ⟨h.ok, fun B st => (h.kp B st).up h1 h2, h.inn⟩
theorem Pure.tup {n W : Nat} {ds : List D} (h : PureL n W ds) (hl : ds.length ≤ 90000) : Pure (n + 1) W (.tup ds) := ⟨.tup h.ok hl, fun B st => Kp.tup (h.kl B st), .tup h.inn⟩
theorem PureL.all {n W : Nat} : ∀ {ds : List D}, (∀ d ∈ ds, Pure n W d) → PureL n ((W + 1) * ds.length) ds
  | [], _ => PureL.nil
  | d :: ds, h => (PureL.cons (h d List.mem_cons_self) (PureL.all fun x hx => h x (List.mem_cons_of_mem _ hx))).up (Nat.le_refl _) (by rw [List.length_cons, Nat.mul_succ]; omega)
theorem pure_ints {xs : List Int} {n k : Nat} (h : ∀ x ∈ xs, Sm x) (hk : xs.length ≤ k) (hk2 : k ≤ 90000) : Pure (n + 2) (6 * k) (.tup (xs.map D.int)) :=
  (Pure.tup (PureL.all (n := n + 1) (W := 5) (ds := xs.map D.int) fun d hd => by
    obtain ⟨x, hx, rfl⟩ := List.mem_map.mp hd
    exact Pure.int (h x hx)) (by simp; omega)).up (Nat.le_refl _) (by simp; omega)
theorem log31 {k : Int} (k0 : 0 ≤ k) (k1 : k ≤ 900) : k.natAbs.log2 < 9000 := Nat.lt_of_lt_of_le (log_lt (by decide : 0 < 10) (show k.natAbs < 2 ^ 10 by omega)) (by decide)
abbrev Bp (p : Nat) : Nat → Prop := fun l => l = p
structure Gv (p : Nat) (st : Sto) (n W c : Nat) (d : D) : Prop where
  ok : Ok d
  inn : In c d
  kp : Kp (Bp p) st n W d
structure GvL (p : Nat) (st : Sto) (n W c : Nat) (ds : List D) : Prop where
  ok : ∀ x ∈ ds, Ok x
  inn : ∀ x ∈ ds, In c x
  kl : KL (Bp p) st n W ds
theorem Fp.fb {p : Nat} {a b : Sto} (h : Fp p a b) : FB (Bp p) a b := h
theorem In.up {c e : Nat} {d : D} (h : In c d) (hc : c ≤ e) : In e d := by
  induction h with
  | non => exact .non
  | bl b => exact .bl b
  | int h => exact .int (by omega)
  | str x => exact .str x
  | mu l => exact .mu l
  | dic k => exact .dic k
  | tup h ih => exact .tup ih
section
variable {p : Nat} {st st' : Sto} {n W V c e m : Nat} {d : D} {ds es : List D}
theorem Gv.mono (h : Gv p st n W c d) (f : Fp p st st') : Gv p st' n W c d := ⟨h.ok, h.inn, h.kp.mono f⟩
theorem GvL.mono (h : GvL p st n W c ds) (f : Fp p st st') : GvL p st' n W c ds := ⟨h.ok, h.inn, h.kl.mono f⟩
theorem Gv.up (h : Gv p st n W c d) (h1 : n ≤ m) (h2 : W ≤ V) (h3 : c ≤ e) : Gv p st m V e d := ⟨h.ok, h.inn.up h3, h.kp.up h1 h2⟩
theorem GvL.up (h : GvL p st n W c ds) (h1 : n ≤ m) (h2 : W ≤ V) (h3 : c ≤ e) : GvL p st m V e ds := ⟨h.ok, fun x hx => (h.inn x hx).up h3, h.kl.up h1 h2⟩
theorem wts_len : ∀ qs : List PyData, qs.length ≤ wts qs
  | [] => Nat.zero_le _
  | x :: xs => by
    have := wts_len xs
    simp only [wts, List.map_cons, List.sum_cons, List.length_cons] at this ⊢
    omega
theorem GvL.len (h : GvL p st n W c ds) : ds.length ≤ W := by
  obtain ⟨qs, a, b, g⟩ := h.kl.ex
  have := datL_len (g st .refl)
  have := wts_len qs
  omega
theorem GvL.nil : GvL p st n W c [] := ⟨by simp, by simp, KL.nil⟩
theorem GvL.cons (h : Gv p st n W c d) (t : GvL p st n V c ds) : GvL p st n (W + 1 + V) c (d :: ds) := ⟨fun x hx => (List.mem_cons.mp hx).elim (fun z => z ▸ h.ok) (t.ok x), fun x hx => (List.mem_cons.mp hx).elim (fun z => z ▸ h.inn) (t.inn x), KL.cons h.kp t.kl⟩
theorem GvL.app (h : GvL p st n W c ds) (t : GvL p st n V c es) : GvL p st n (W + V) c (ds ++ es) := ⟨fun x hx => (List.mem_append.mp hx).elim (h.ok x) (t.ok x), fun x hx => (List.mem_append.mp hx).elim (h.inn x) (t.inn x), KL.app h.kl t.kl⟩
theorem GvL.take (k : Nat) (h : GvL p st n W c ds) : GvL p st n W c (ds.take k) := ⟨fun x hx => h.ok x (List.mem_of_mem_take hx), fun x hx => h.inn x (List.mem_of_mem_take hx), h.kl.take k⟩
theorem GvL.drop (k : Nat) (h : GvL p st n W c ds) : GvL p st n W c (ds.drop k) := ⟨fun x hx => h.ok x (List.mem_of_mem_drop hx), fun x hx => h.inn x (List.mem_of_mem_drop hx), h.kl.drop k⟩
theorem GvL.rev (h : GvL p st n W c ds) : GvL p st n W c ds.reverse := ⟨fun x hx => h.ok x (List.mem_reverse.mp hx), fun x hx => h.inn x (List.mem_reverse.mp hx), h.kl.rev⟩
/-- what is left and right of a place, with something between -/
theorem KL.cut {B : Nat → Prop} (h : KL B st n W ds) (k : Nat) : ∃ V1 V2, V1 + V2 ≤ W ∧ KL B st n V1 (ds.take k) ∧ KL B st n V2 (ds.drop k) := by
  obtain ⟨q, a, b, g⟩ := h.ex
  refine ⟨wts (q.take k), wts (q.drop k), by rw [wts_cut]; exact b, ⟨q.take k, fun x hx => a x (List.mem_of_mem_take hx), Nat.le_refl _, fun s hs => datL_take k (g s hs)⟩, ⟨q.drop k, fun x hx => a x (List.mem_of_mem_drop hx), Nat.le_refl _, fun s hs => datL_drop k (g s hs)⟩⟩
theorem GvL.ins (h : GvL p st n W c ds) (k : Nat) (g : Gv p st n V c d) : GvL p st n (W + V + 1) c (ds.take k ++ [d] ++ ds.drop k) := by
  obtain ⟨V1, V2, hv, k1, k2⟩ := h.kl.cut k
  have a : GvL p st n V1 c (ds.take k) := ⟨(h.take k).ok, (h.take k).inn, k1⟩
  have b : GvL p st n V2 c (ds.drop k) := ⟨(h.drop k).ok, (h.drop k).inn, k2⟩
  exact ((a.app (GvL.cons g (GvL.nil (W := 0)))).app b).up (Nat.le_refl _) (by omega) (Nat.le_refl _)
theorem KL.cut1 {B : Nat → Prop} (h : KL B st n W ds) (k : Nat) : ∃ V1 V2, V1 + V2 ≤ W ∧ KL B st n V1 (ds.take k) ∧ KL B st n V2 (ds.drop (k + 1)) := by
  obtain ⟨V1, V2, hv, k1, k2⟩ := h.cut k
  refine ⟨V1, V2, hv, k1, ?_⟩
  have := k2.drop 1
  rwa [List.drop_drop] at this
theorem GvL.rpl (h : GvL p st n W c ds) (k : Nat) (g : Gv p st n V c d) : GvL p st n (W + V + 1) c (ds.take k ++ [d] ++ ds.drop (k + 1)) := by
  obtain ⟨V1, V2, hv, k1, k2⟩ := h.kl.cut1 k
  have a : GvL p st n V1 c (ds.take k) := ⟨(h.take k).ok, (h.take k).inn, k1⟩
  have b : GvL p st n V2 c (ds.drop (k + 1)) := ⟨(h.drop (k + 1)).ok, (h.drop (k + 1)).inn, k2⟩
  exact ((a.app (GvL.cons g (GvL.nil (W := 0)))).app b).up (Nat.le_refl _) (by omega) (Nat.le_refl _)
theorem GvL.rem (h : GvL p st n W c ds) (k : Nat) : GvL p st n W c (ds.take k ++ ds.drop (k + 1)) := by
  obtain ⟨V1, V2, hv, k1, k2⟩ := h.kl.cut1 k
  have a : GvL p st n V1 c (ds.take k) := ⟨(h.take k).ok, (h.take k).inn, k1⟩
  have b : GvL p st n V2 c (ds.drop (k + 1)) := ⟨(h.drop (k + 1)).ok, (h.drop (k + 1)).inn, k2⟩
  exact (a.app b).up (Nat.le_refl _) hv (Nat.le_refl _)
theorem Gv.tup (h : GvL p st n W c ds) (hl : ds.length ≤ 90000) : Gv p st (n + 1) W c (.tup ds) := ⟨.tup h.ok hl, .tup h.inn, Kp.tup h.kl⟩
theorem Gv.tupI (h : Gv p st (n + 1) W c (.tup ds)) : GvL p st n W c ds := ⟨(ok_tup h.ok).1, (by cases h.inn with | tup h => exact h), h.kp.tupI⟩
theorem GvL.get (h : GvL p st n W c ds) {k : Nat} (hk : ds[k]? = some d) : Gv p st n W c d := ⟨h.ok d (List.mem_of_getElem? hk), h.inn d (List.mem_of_getElem? hk), h.kl.get hk⟩
theorem Gv.lst {l : Nat} (h : GvL p st n W c ds) (hl : st[l]? = some ds) (hp : l ≠ p) : Gv p st (n + 1) W c (.mu l) := ⟨.mu l, .mu l, Kp.lst h.kl hl hp⟩
theorem Gv.int {i : Int} (h : i.natAbs ≤ 42) (h2 : i.natAbs ≤ c) : Gv p st (n + 1) 7 c (.int i) := ⟨.int i, .int h2, Kp.int (by omega) (by decide)⟩
theorem Gv.non : Gv p st (n + 1) W c .non := ⟨.non, .non, Kp.non⟩
theorem Gv.bl (b : Bool) : Gv p st (n + 1) W c (.bl b) := ⟨.bl b, .bl b, Kp.bl b⟩
theorem Gv.text {s : String} (h : s.length ≤ W) : Gv p st (n + 1) W c (.str (Str.ofString s)) := ⟨.str _, .str _, Kp.text h⟩
end
/-! ### slices -/
theorem cut_to (xs : List D) {a : Int} (h : 0 ≤ a) : cutD xs none (some a) = xs.take a.toNat := by
  unfold cutD
  obtain ⟨k, rfl⟩ : ∃ k : Nat, a = (k : Int) := ⟨a.toNat, by omega⟩
  rw [HT.sIx_none, HT.sIx_nat]
  simp
theorem cut_from (xs : List D) {a : Int} (h : 0 ≤ a) : cutD xs (some a) none = xs.drop a.toNat := by
  unfold cutD
  obtain ⟨k, rfl⟩ : ∃ k : Nat, a = (k : Int) := ⟨a.toNat, by omega⟩
  rw [HT.sIx_none, HT.sIx_nat]
  by_cases hk : k ≤ xs.length
  · rw [Nat.min_eq_left hk, List.take_of_length_le (by rw [List.length_drop]; exact Nat.le_refl _)]; simp
  · rw [Nat.min_eq_right (by omega), List.drop_eq_nil_of_le (Nat.le_refl _)]
    simp; omega
theorem cut_last (xs : List D) : cutD xs (some (-1)) none = xs.drop (xs.length - 1) := by
  unfold cutD
  have e : HT.sIx xs.length 0 (some (-1)) = xs.length - 1 := by
    show (if (-1 : Int) < 0 then ((-1 : Int) + (xs.length : Int)).toNat else min (-1 : Int).toNat xs.length) = _
    rw [if_pos (by decide)]; omega
  rw [HT.sIx_none, e, List.take_of_length_le (by rw [List.length_drop]; exact Nat.le_refl _)]
theorem ne_empty {p n W : Nat} {st : Sto} {ds : List D} (h : Kp (Bp p) st n W (.tup ds)) (hn : n ≤ 64) : fNeA (.tup ds) (.tup []) st = some (.bl (!decide (ds = [])), st) := by
  obtain ⟨q, a, _, g⟩ := (h.up hn (Nat.le_refl W)).ex
  have e1 := g st .refl
  have e2 : dat st 64 (.tup []) = some (.tuple []) := by simp [dat, datL]
  obtain ⟨qs, rfl, hl⟩ : ∃ qs, q = .tuple qs ∧ qs.length = ds.length := by
    unfold dat at e1
    cases e : datL st 63 ds with
    | none => rw [e] at e1; cases e1
    | some qs => rw [e] at e1; cases e1; exact ⟨qs, rfl, datL_len e⟩
  have e3 : PyData.eqv (.tuple qs) (.tuple []) = decide (ds = []) := by
    cases ds with
    | nil =>
      cases qs with
      | nil => rfl
      | cons _ _ => simp at hl
    | cons x xs =>
      cases qs with
      | nil => simp at hl
      | cons _ _ => rfl
  show fNe (.tup ds) (.tup []) st = _
  unfold fNe eqD
  rw [e1, e2]
  simp only [a.can, show PyData.canLay0 (.tuple []) = true from rfl, and_self, if_true, Option.map_some, e3]
theorem s_ifR {en en2 : En} {st st' s2 : Sto} {c : MM Bool} {a b : MS} {d : D} (h : c en st = some (.ok true, st')) (ha : a en st' = some (.rt d, en2, s2)) : sSeq (sIf c a sNx) b en st = some (.rt d, en2, s2) := by
  rw [u_sSeq, u_sIf, u_sEx, h]
  simp only [if_true, ha]
end M2
set_option Elab.async false
set_option linter.all false
set_option maxRecDepth 100000
set_option maxHeartbeats 4000000
namespace M2
open PySem PySem.Spec PyProof.Rows L2
open Classical
variable [Tb]
/-! texts of data are texts -/
def SOk (x : Str) : Prop := ∀ c ∈ x.cps.toList, c < 0x110000
theorem SOk.ok {x : Str} (h : SOk x) : PyData.strOk x = true := by
  unfold PyData.strOk
  rw [Array.all_eq_true']
  intro c hc
  exact decide_eq_true (h c (Array.mem_def.mp hc))
theorem sok_of {x : Str} (h : PyData.strOk x = true) : SOk x := fun c hc => by
  unfold PyData.strOk at h
  rw [Array.all_eq_true'] at h
  exact of_decide_eq_true (h c (Array.mem_def.mpr hc))
theorem SOk.app {x y : Str} (h : SOk x) (g : SOk y) : SOk (x ++ y) := fun c hc => by
  have : (x ++ y).cps.toList = x.cps.toList ++ y.cps.toList := by
    show (x.cps ++ y.cps).toList = _
    simp
  rw [this] at hc
  exact (List.mem_append.mp hc).elim (h c) (g c)
theorem ch_lt (c : Char) : c.toNat < 0x110000 := by
  have := c.valid
  have e : c.val.toNat = c.toNat := rfl
  unfold UInt32.isValidChar Nat.isValidChar at this
  omega
theorem sok_str (s : String) : SOk (Str.ofString s) := fun c hc => by
  rw [Str.ofString_eq_toList] at hc
  obtain ⟨d, _, rfl⟩ := List.mem_map.mp (by simpa using hc)
  exact ch_lt d
theorem sok_join {sep : Str} (h : SOk sep) : ∀ {ts : List Str}, (∀ t ∈ ts, SOk t) → SOk (Str.join sep ts)
  | [], _ => fun c hc => by simp [Str.join, Str.empty] at hc
  | [x], g => g x List.mem_cons_self
  | x :: y :: r, g => ((g x List.mem_cons_self).app h).app (sok_join h fun t ht => g t (List.mem_cons_of_mem _ ht))
theorem sok_from : ∀ {ts : List Str} {k : Nat} {acc : Str}, SOk acc → (∀ t ∈ ts, SOk t) → SOk (textFrom k acc ts)
  | [], _, _, h, _ => h
  | t :: ts, k, acc, h, g => by
    unfold textFrom
    exact sok_from ((h.app (sok_str _)).app (g t List.mem_cons_self)) fun t ht => g t (List.mem_cons_of_mem _ ht)
theorem sok_tup {ts : List Str} (g : ∀ t ∈ ts, SOk t) : SOk (tupleText ts) := ((sok_str "(").app (sok_join (sok_str ", ") g)).app (sok_str _)
theorem sok_lst {ts : List Str} (g : ∀ t ∈ ts, SOk t) : SOk (listText ts) := (sok_from (sok_str "[") g).app (sok_str "]")
theorem sok_char {q c : Nat} (hq : q < 0x110000) (hc : c < 0x110000) : ∀ n ∈ Builtin.Str.reprChar q c, n < 0x110000 := by
  have hx : ∀ w : Nat, ∀ n ∈ List.replicate w 48 ++ (Nat.toDigits 16 c).map Char.toNat, n < 0x110000 := fun w n hn => by
    rcases List.mem_append.mp hn with h | h
    · rw [(List.mem_replicate.mp h).2]; decide
    · obtain ⟨d, _, rfl⟩ := List.mem_map.mp h; exact ch_lt d
  intro n hn
  unfold Builtin.Str.reprChar at hn
  dsimp only at hn
  repeat' split at hn
  all_goals first
    | (simp only [List.mem_cons, List.not_mem_nil, or_false] at hn; omega)
    | (rcases List.mem_append.mp hn with h | h
       · simp only [List.mem_cons, List.not_mem_nil, or_false] at h; omega
       · exact hx _ n h)
theorem sok_repr {x : Str} (h : SOk x) : SOk (reprText x) := by
  have hq : reprQuote x < 0x110000 := by unfold reprQuote; split <;> decide
  have go : ∀ (l : List Nat) (acc : Array Nat), (∀ c ∈ acc.toList, c < 0x110000) → (∀ c ∈ l, c < 0x110000) → ∀ c ∈ (l.foldl (fun out c => out ++ (Builtin.Str.reprChar (reprQuote x) c).toArray) acc).toList, c < 0x110000 := by
    intro l
    induction l with
    | nil => intro acc h _; exact h
    | cons d l ih =>
      intro acc h1 h2
      rw [List.foldl_cons]
      refine ih _ (fun c hc => ?_) fun c hc => h2 c (List.mem_cons_of_mem _ hc)
      simp only [Array.toList_append] at hc
      rcases List.mem_append.mp hc with hc | hc
      · exact h1 c hc
      · exact sok_char hq (h2 d List.mem_cons_self) c hc
  intro c hc
  unfold reprText at hc
  simp only [Array.toList_push] at hc
  rcases List.mem_append.mp hc with hc | hc
  · rw [← Array.foldl_toList] at hc
    exact go x.cps.toList #[reprQuote x] (fun c hc => by simp at hc; omega) h c hc
  · simp at hc; omega
mutual
theorem sok_shown : ∀ q : PyData, q.canLay0 = true → SOk q.shown
  | .none, _ => sok_str _
  | .bool true, _ => sok_str "True"
  | .bool false, _ => sok_str "False"
  | .int i, _ => sok_str _
  | .str x, h => sok_repr (sok_of (by simpa [PyData.canLay0] using h))
  | .list xs, h => sok_lst (sok_shownAll xs (by simpa [PyData.canLay0] using h))
  | .tuple xs, h => sok_tup (sok_shownAll xs (by simpa [PyData.canLay0] using h))
  | .dict _, h => by simp [PyData.canLay0] at h
theorem sok_shownAll : ∀ qs : List PyData, PyData.canLayAll0 qs = true → ∀ t ∈ PyData.shownAll qs, SOk t
  | [], _ => fun t h => by simp [PyData.shownAll] at h
  | x :: xs, h => fun t ht => by
    have h' : x.canLay0 = true ∧ PyData.canLayAll0 xs = true := by simpa [PyData.canLayAll0] using h
    simp only [PyData.shownAll] at ht
    rcases List.mem_cons.mp ht with rfl | ht
    · exact sok_shown x h'.1
    · exact sok_shownAll xs h'.2 t ht
end
theorem can_texts {t : Str} (h : SOk t) (n : Nat) : PyData.canLay0 (.list (List.replicate n (.str t))) = true := by
  have : PyData.canLayAll0 (List.replicate n (.str t)) = true := by
    induction n with
    | zero => rfl
    | succ n ih =>
      show PyData.canLayAll0 (.str t :: List.replicate n (.str t)) = true
      simp only [PyData.canLayAll0, ih, Bool.and_true]
      simpa [PyData.canLay0] using h.ok
  simpa [PyData.canLay0] using this
theorem dat_mu6 {st : Sto} {n l : Nat} {ds : List D} (h : st[l]? = some ds) : dat st (n + 1) (.mu l) = (datL st n ds).map PyData.list := by
  simp [dat, h]
theorem ne_txt {t : Str} (ht : SOk t) {n l k : Nat} {s : Sto} (h1 : s[l]? = some (List.replicate n (.str t))) (h2 : s[k]? = some (List.replicate n (.str t))) : fNeA (.mu l) (.mu k) s = some (.bl false, s) := by
  have q2 : ∀ m : Nat, datL s 63 (List.replicate m (D.str t)) = some (List.replicate m (.str t)) := fun m => by
    induction m with
    | zero => simp [datL]
    | succ m ih => simp [List.replicate_succ, datL, dat, ih]
  have d1 : dat s 64 (.mu l) = some (.list (List.replicate n (.str t))) := by
    rw [dat_mu6 h1, q2]; rfl
  have d2 : dat s 64 (.mu k) = some (.list (List.replicate n (.str t))) := by
    rw [dat_mu6 h2, q2]; rfl
  have c := can_texts ht n
  show fNe (.mu l) (.mu k) s = _
  unfold fNe eqD
  rw [d1, d2]
  simp only [c, and_self, if_true, Option.map_some, SeqAt.eqv_refl _ c, Bool.not_true]
/-- what has a text that is a text -/
def Kt (B : Nat → Prop) (st : Sto) (d : D) : Prop := ∃ t : Str, SOk t ∧ ∀ st', FB B st st' → fReprA [d] st' = some (.str t, st')
theorem Kp.kt {B : Nat → Prop} {st : Sto} {n W : Nat} {d : D} (h : Kp B st n W d) (hn : n ≤ 64) (hW : W ≤ 100000) : Kt B st d := by
  obtain ⟨q, a, b, c⟩ := (h.up hn (Nat.le_refl W)).ex
  exact ⟨q.shown, sok_shown q a.can, fun s hs => rep_of (c s hs) a (Nat.le_trans b hW)⟩
theorem Kt.kr {B : Nat → Prop} {st : Sto} {d : D} (h : Kt B st d) : Kr B st d := by
  obtain ⟨t, _, c⟩ := h
  exact ⟨t, c⟩
end M2
set_option Elab.async false
set_option linter.all false
set_option maxRecDepth 100000
set_option maxHeartbeats 4000000
namespace M2
open PySem PySem.Spec PyProof.Rows L2
open Classical
variable [Tb]
section
variable {X : Cx} {E : XK}
theorem xv (i : Nat) {x : Str} {pos : Pos} (hN : X.N[i]? = some x := by rfl) (hv : Vis X.env.scope x := by first | exact Or.inl rfl | exact Or.inr (Or.inl rfl) | exact Or.inr (Or.inr rfl)) (hd : (x == ("__debug__" : Str)) = false := by decide)
    (hc : (x == ("__classdict__" : Str)) = false := by decide) : DE X E (.Name x pos) (mVar i) := de_var hN hv hd hc
theorem xg (hN : X.N.Nodup) (i : Nat) {x : Str} {pos : Pos} (hi : X.N[i]? = some x := by rfl) (hx : Loc X.env.scope x := by first | exact Or.inl rfl | exact Or.inr rfl) (hf : X.fn x = true ∨ X.env.scope.names.lookup x = some .local := by first | exact Or.inl rfl | exact Or.inr rfl) : DG X (.Name x pos) [i] (setN i) := dg_name hN hi hx hf
theorem xs (hN : X.N.Nodup) (i : Nat) {x : Str} {e : Expr} {me : MM D} {pos' pos : Pos} (he : DE X E e me) (hi : X.N[i]? = some x := by rfl) (hx : Loc X.env.scope x := by first | exact Or.inl rfl | exact Or.inr rfl) (hs : swapsWith e (some (.Name x pos')) pos.line X.env = pure false := by rfl)
    (hf : X.fn x = true ∨ X.env.scope.names.lookup x = some .local := by first | exact Or.inl rfl | exact Or.inr rfl) : DS1 X E (.Assign [.Name x pos'] e pos) (sAsg me (setN i)) := ds_set hN hi hx he hs hf
end
section
variable {X : Cx} {E : XK}
theorem xdic (i : Nat) {x k : Str} {j1 : Nat} {p1 p2 pos : Pos} (hN : X.N[i]? = some x := by rfl) (hv : Vis X.env.scope x := by first | exact Or.inl rfl | exact Or.inr (Or.inl rfl) | exact Or.inr (Or.inr rfl)) (hd : (x == ("__debug__" : Str)) = false := by decide)
    (hc : (x == ("__classdict__" : Str)) = false := by decide) : DE X E (.Dict [some (.Constant (.str k) j1 p1)] [.Name x p2] pos) (mDic1 (.inr k) (mVar i)) := de_dicV hN hv hd hc
end
theorem hu64 {k : Nat} {A : Around} (hr : Room k A) : A.units + 64 < cLine := by have := hr.un; omega
theorem hu66 {k : Nat} {A : Around} (hr : Room k A) : A.units + 66 < cLine := by have := hr.un; omega
theorem ds_never {X : Cx} {E : XK} {s : Stmt} : DS1 X E s sNever := ps_imp ps_never fun D σ H ⟨en, st, φ, re, rs, c, en', st', e, q⟩ => by cases e
def lcS : Expr → Scope
  | .ListComp _ _ sc _ => sc
  | _ => defScope (.Pass ⟨0, 0, 0, 0⟩)
def asgE : Stmt → Expr
  | .Assign _ e _ => e
  | _ => .Name "" ⟨0, 0, 0, 0⟩
def arg0A (s : Stmt) : Expr := match asgE s with
  | .Call _ (e :: _) _ _ => e
  | e => e
def retE : Stmt → Expr
  | .Return (some e) _ => e
  | _ => .Name "" ⟨0, 0, 0, 0⟩
def binL : Expr → Expr
  | .BinOp e _ _ _ => e
  | e => e
def binR : Expr → Expr
  | .BinOp _ _ e _ => e
  | e => e
def argN (e : Expr) (n : Nat) : Expr := match e with
  | .Call _ es _ _ => es.getD n e
  | e => e
def forB (s : Stmt) (n : Nat) : Stmt := match s with
  | .For _ _ b _ _ => b.getD n s
  | s => s
def bodyAt (s : Stmt) (i : Nat) : Stmt := (defBody s).getD i (.Pass ⟨0, 0, 0, 0⟩)
def relS (sc outer : Scope) : Scope := { sc with names := sc.names.map (fun q => match q with | (n, k) => if (k == NameKind.free && outer.kind == ScopeKind.function && outer.names.lookup n == some NameKind.cell) = true then (n, NameKind.cell) else (n, k)) }
/-- the i-th statement of the text's top -/
def topS (i : Nat) : Stmt := PySem.Challenge.pw_codepick_k40_contexts_known.main.body.getD i (.Pass ⟨0, 0, 0, 0⟩)
section
variable {P : Program} {w : World} {K : PySem.W.Frag} {mg : Str → Option Value} {base : Heap}
abbrev csL : List Str := ["NoArities"]
abbrev kwL : List (Str × Str) := [("NoArities", "arities")]
theorem evKw {n wd : Str} (h : (n, wd) ∈ kwL) : kwB n wd = true := kw_all (kw := kwL) (by decide +kernel) h
abbrev s__law_pen : Stmt := topS 20
theorem sc__law_pen : FnScope ["_law_cell"] ["_law_cell"] (defScope s__law_pen) := ⟨rfl, rfl, rfl, by decide +kernel, rfl, by decide +kernel, by decide +kernel⟩
noncomputable def b__law_pen : MS :=
    (sSeq (sRet (mLst [(mBlt fMax2 (mArgs [(ret (.int 0)), (mOp fSubB (mVar 0) (mOp fPow (ret (.int 10)) (ret (.int 18))))])), (mOp fMod (mVar 0) (ret (.int 1000000007))), (ret (.int 0))]))
    sNx)
noncomputable def f__law_pen : FD := runF 1 b__law_pen
theorem g__law_pen (B : Bt mg)  {f : Addr} {fd : FuncData} (F : Fun K "_law_pen" "_law_pen" s__law_pen f fd) : FnG P w K mg base (L2.CX P w) 1 f fd ["_law_cell"] (spF K 1 f__law_pen) := by
  refine fng_df F sc__law_pen fun cd A ou s H E hg hr => ?_
  have hu := hu64 hr
  have hu2 := hu66 hr
  exact (dss_cons (ds_ret (de_lst (da_cons (de_blt (call_max2 rfl) cal_max2 rfl B.max PyProof.Rows.boot_max (da_cons de_int (da_cons (de_op (op_subBI.or op_sub) (opd_BI opd_sub) (xv 0) (de_op op_pow opd_pow de_int de_int)) da_nil)) (by decide) rfl rfl rfl) (da_cons (de_op op_mod opd_mod (xv 0) de_int) (da_cons de_int da_nil)))))
    dss_nil)
abbrev s_is_integer : Stmt := topS 4
theorem sc_is_integer : FnScope ["thing"] ["thing"] (defScope s_is_integer) := ⟨rfl, rfl, rfl, by decide +kernel, rfl, by decide +kernel, by decide +kernel⟩
noncomputable def b_is_integer : MS :=
    (sSeq (sRet (mAndV (mBlt fIsi (mArgs [(mVar 0), (ret (.ty "int"))])) (mNotV (mBlt fIsi (mArgs [(mVar 0), (ret (.ty "bool"))])))))
    sNx)
noncomputable def f_is_integer : FD := runF 1 b_is_integer
theorem g_is_integer (B : Bt mg)  {f : Addr} {fd : FuncData} (F : Fun K "is_integer" "is_integer" s_is_integer f fd) : FnG P w K mg base (L2.CX P w) 1 f fd ["thing"] (spF K 1 f_is_integer) := by
  refine fng_df F sc_is_integer fun cd A ou s H E hg hr => ?_
  have hu := hu64 hr
  have hu2 := hu66 hr
  exact (dss_cons (ds_ret (de_and (de_blt call_isi cal_isi rfl B.isinstance (by decide +kernel) (da_cons (xv 0) (da_cons (de_tyn rfl B.int (by decide +kernel) (by decide) rfl) da_nil)) (by decide) rfl rfl rfl) (de_one (de_not (de_blt call_isi cal_isi rfl B.isinstance (by decide +kernel) (da_cons (xv 0) (da_cons (de_tyn rfl B.bool (by decide +kernel) (by decide) rfl) da_nil)) (by decide) rfl rfl rfl)))))
    dss_nil)
abbrev s_is_between : Stmt := topS 5
theorem sc_is_between : FnScope ["thing", "least", "most"] ["thing", "least", "most"] (defScope s_is_between) := ⟨rfl, rfl, rfl, by decide +kernel, rfl, by decide +kernel, by decide +kernel⟩
noncomputable def b_is_between : MS :=
    (sSeq (sRet (mAndV (mCall 1 f_is_integer (mArgs [(mVar 0)])) (mChain fLe fLe (mVar 1) (mVar 0) (mVar 2))))
    sNx)
noncomputable def f_is_between : FD := runF 3 b_is_between
theorem g_is_between (B : Bt mg) (d_is_integer : Df P w K mg base "is_integer" 1 1 f_is_integer) {f : Addr} {fd : FuncData} (F : Fun K "is_between" "is_between" s_is_between f fd) : FnG P w K mg base (L2.CX P w) 2 f fd ["thing", "least", "most"] (spF K 3 f_is_between) := by
  refine fng_df F sc_is_between fun cd A ou s H E hg hr => ?_
  have hu := hu64 hr
  have hu2 := hu66 hr
  exact (dss_cons (ds_ret (de_and (de_call d_is_integer hg (hr.mono (by decide)) passC rfl (da_cons (xv 0) da_nil) rfl rfl rfl) (de_one (de_chain (op_le) (op_le) opd_le opd_le (xv 1) (xv 0) (xv 2) (by with_unfolding_all rfl)))))
    dss_nil)
abbrev s_is_arities : Stmt := topS 9
theorem sc_is_arities : FnScope ["thing", "arity"] ["thing"] (defScope s_is_arities) := ⟨rfl, rfl, rfl, by decide +kernel, rfl, by decide +kernel, by decide +kernel⟩
noncomputable def b_is_arities : MS :=
    (sSeq (sRet (mAndV (mBlt fIsi (mArgs [(mVar 0), (ret (.ty "tuple"))])) (mAndV (mChain fLe fLe (ret (.int 1)) (mBlt fLen (mArgs [(mVar 0)])) (ret (.int 6))) (mBlt fAll (mArgs [(mLc (mIter (mVar 0)) [1] (setN 1) (ret true) (mCall 3 f_is_between (mArgs [(mVar 1), (ret (.int 0)), (ret (.int 2))])))])))))
    sNx)
noncomputable def f_is_arities : FD := runF 2 b_is_arities
theorem g_is_arities (B : Bt mg) (c_MOST_ARGUMENTS : ∃ t, mg "MOST_ARGUMENTS" = some (.int 2 t)) (c_MOST_OPERATORS : ∃ t, mg "MOST_OPERATORS" = some (.int 6 t)) (d_is_between : Df P w K mg base "is_between" 2 3 f_is_between) {f : Addr} {fd : FuncData} (F : Fun K "is_arities" "is_arities" s_is_arities f fd) : FnG P w K mg base (L2.CX P w) 3 f fd ["thing"] (spF K 1 f_is_arities) := by
  refine fng_df F sc_is_arities fun cd A ou s H E hg hr => ?_
  have hu := hu64 hr
  have hu2 := hu66 hr
  exact (dss_cons (ds_ret (de_and (de_blt call_isi cal_isi rfl B.isinstance (by decide +kernel) (da_cons (xv 0) (da_cons (de_tyn rfl B.tuple (by decide +kernel) (by decide) rfl) da_nil)) (by decide) rfl rfl rfl) (de_and (de_chain (op_le) (op_le) opd_le opd_le de_int (de_blt call_len_seq cal_len rfl B.len PySem.boot_len (da_cons (xv 0) da_nil) (by decide) rfl rfl rfl) (de_glob rfl c_MOST_OPERATORS rfl) (by with_unfolding_all rfl)) (de_one (de_blt (cr_all rfl) cal_all rfl B.all (by decide +kernel) (da_cons (de_lc (own := [("arity", 1)]) rfl sc_is_arities.nd (di_seq (xv 0)) (blkOk_by (N := ["thing", "arity"]) (sc := defScope s_is_arities) (by decide +kernel)) (fun _ _ _ _ _ => (xg sc_is_arities.nd 1)) (fun _ _ _ _ _ => dts_nil) (fun _ _ _ _ _ => (de_call d_is_between hg (hr.mono (by decide)) passL rfl (da_cons (xv 1) (da_cons de_int (da_cons (de_glob rfl c_MOST_ARGUMENTS rfl) da_nil))) rfl rfl rfl)) (by intro _; rfl) (by decide)) da_nil) (by decide) rfl rfl rfl)))))
    dss_nil)
abbrev s_need_arities : Stmt := topS 12
theorem sc_need_arities : FnScope ["arities"] ["arities"] (defScope s_need_arities) := ⟨rfl, rfl, rfl, by decide +kernel, rfl, by decide +kernel, by decide +kernel⟩
noncomputable def b_need_arities : MS :=
    (sSeq (sIf (mNot (mTru (mCall 1 f_is_arities (mArgs [(mVar 0)])))) (sSeq (sRaise "NoArities")
    sNx) sNx)
    sNx)
noncomputable def f_need_arities : FD := runF 1 b_need_arities
theorem g_need_arities (B : Bt mg) (cm_NoArities : mg "NoArities" = some (.ref (clsA K "NoArities"))) (kn_NoArities : KndC K csL "NoArities") (d_is_arities : Df P w K mg base "is_arities" 3 1 f_is_arities) {f : Addr} {fd : FuncData} (F : Fun K "need_arities" "need_arities" s_need_arities f fd) : FnG P w K mg base (L2.CX P w) 4 f fd ["arities"] (spF K 1 f_need_arities) := by
  refine fng_df F sc_need_arities fun cd A ou s H E hg hr => ?_
  have hu := hu64 hr
  have hu2 := hu66 hr
  exact (dss_cons (ds_if (dt_not (dt_tru (de_call d_is_arities hg (hr.mono (by decide)) passC rfl (da_cons (xv 0) da_nil) rfl rfl rfl) fun _ => rfl)) (dss_cons (ds_raiseC kn_NoArities cm_NoArities rfl (takes_of rfl rfl rfl rfl) rfl rfl)
    dss_nil) dss_nil)
    dss_nil)
abbrev s_is_operator : Stmt := topS 10
theorem sc_is_operator : FnScope ["arities", "thing"] ["arities", "thing"] (defScope s_is_operator) := ⟨rfl, rfl, rfl, by decide +kernel, rfl, by decide +kernel, by decide +kernel⟩
noncomputable def b_is_operator : MS :=
    (sSeq (sRet (mCall 3 f_is_between (mArgs [(mVar 1), (ret (.int 0)), (mOp fSubB (mBlt fLen (mArgs [(mVar 0)])) (ret (.int 1)))])))
    sNx)
noncomputable def f_is_operator : FD := runF 2 b_is_operator
theorem g_is_operator (B : Bt mg) (d_is_between : Df P w K mg base "is_between" 2 3 f_is_between) {f : Addr} {fd : FuncData} (F : Fun K "is_operator" "is_operator" s_is_operator f fd) : FnG P w K mg base (L2.CX P w) 3 f fd ["arities", "thing"] (spF K 2 f_is_operator) := by
  refine fng_df F sc_is_operator fun cd A ou s H E hg hr => ?_
  have hu := hu64 hr
  have hu2 := hu66 hr
  exact (dss_cons (ds_ret (de_call d_is_between hg (hr.mono (by decide)) passC rfl (da_cons (xv 1) (da_cons de_int (da_cons (de_op (op_subBI.or op_sub) (opd_BI opd_sub) (de_blt call_len_seq cal_len rfl B.len PySem.boot_len (da_cons (xv 0) da_nil) (by decide) rfl rfl rfl) de_int) da_nil))) rfl rfl rfl))
    dss_nil)
abbrev s_is_node : Stmt := topS 13
theorem sc_is_node : FnScope ["arities", "place", "thing", "part"] ["arities", "place", "thing"] (defScope s_is_node) := ⟨rfl, rfl, rfl, by decide +kernel, rfl, by decide +kernel, by decide +kernel⟩
noncomputable def b_is_node : MS :=
    (sSeq (sRet (mAndV (mBlt fIsi (mArgs [(mVar 2), (ret (.ty "tuple"))])) (mAndV (mOp fGt (mBlt fLen (mArgs [(mVar 2)])) (ret (.int 0))) (mAndV (mCall 2 f_is_operator (mArgs [(mVar 0), (mOp fIx (mVar 2) (ret (.int 0)))])) (mAndV (mOp fEqA (mBlt fLen (mArgs [(mVar 2)])) (mOp fAddB (ret (.int 1)) (mOp fIx (mVar 0) (mOp fIx (mVar 2) (ret (.int 0)))))) (mBlt fAll (mArgs [(mLc (mIter (mSl (mVar 2) (some (ret (.int 1))) none)) [3] (setN 3) (ret true) (mCall 3 f_is_between (mArgs [(mVar 3), (ret (.int 0)), (mOp fSubB (mVar 1) (ret (.int 1)))])))])))))))
    sNx)
noncomputable def f_is_node : FD := runF 4 b_is_node
theorem g_is_node (B : Bt mg) (d_is_operator : Df P w K mg base "is_operator" 3 2 f_is_operator) (d_is_between : Df P w K mg base "is_between" 2 3 f_is_between) {f : Addr} {fd : FuncData} (F : Fun K "is_node" "is_node" s_is_node f fd) : FnG P w K mg base (L2.CX P w) 4 f fd ["arities", "place", "thing"] (spF K 3 f_is_node) := by
  refine fng_df F sc_is_node fun cd A ou s H E hg hr => ?_
  have hu := hu64 hr
  have hu2 := hu66 hr
  exact (dss_cons (ds_ret (de_and (de_blt call_isi cal_isi rfl B.isinstance (by decide +kernel) (da_cons (xv 2) (da_cons (de_tyn rfl B.tuple (by decide +kernel) (by decide) rfl) da_nil)) (by decide) rfl rfl rfl) (de_and (de_cmp (op_gt) opd_gt (de_blt call_len_seq cal_len rfl B.len PySem.boot_len (da_cons (xv 2) da_nil) (by decide) rfl rfl rfl) de_int (nomark _)) (de_and (de_call d_is_operator hg (hr.mono (by decide)) passC rfl (da_cons (xv 0) (da_cons (de_ix (xv 2) de_int fun _ _ => rfl) da_nil)) rfl rfl rfl) (de_and (de_cmp (op_eqA hu) opd_eqA (de_blt call_len_seq cal_len rfl B.len PySem.boot_len (da_cons (xv 2) da_nil) (by decide) rfl rfl rfl) (de_op (op_addBI.or op_addA) (opd_BI opd_add) de_int (de_ix (xv 0) (de_ix (xv 2) de_int fun _ _ => rfl) fun _ _ => rfl)) (nomark _)) (de_one (de_blt (cr_all rfl) cal_all rfl B.all (by decide +kernel) (da_cons (de_lc (own := [("part", 3)]) rfl sc_is_node.nd (di_seq (de_sl (xv 2) (do_some de_int) do_none)) (blkOk_by (N := ["arities", "place", "thing", "part"]) (sc := defScope s_is_node) (by decide +kernel)) (fun _ _ _ _ _ => (xg sc_is_node.nd 3)) (fun _ _ _ _ _ => dts_nil) (fun _ _ _ _ _ => (de_call d_is_between hg (hr.mono (by decide)) passL rfl (da_cons (xv 3) (da_cons de_int (da_cons (de_op (op_subBI.or op_sub) (opd_BI opd_sub) (xv 1) de_int) da_nil))) rfl rfl rfl)) (by intro _; rfl) (by decide)) da_nil) (by decide) rfl rfl rfl)))))))
    dss_nil)
abbrev s_is_tree : Stmt := topS 14
theorem sc_is_tree : FnScope ["arities", "thing", "place", "node"] ["arities", "thing"] (defScope s_is_tree) := ⟨rfl, rfl, rfl, by decide +kernel, rfl, by decide +kernel, by decide +kernel⟩
noncomputable def b_is_tree : MS :=
    (sSeq (sExpr (mCall 1 f_need_arities (mArgs [(mVar 0)])))
    (sSeq (sRet (mAndV (mBlt fIsi (mArgs [(mVar 1), (ret (.ty "tuple"))])) (mAndV (mOp fGt (mBlt fLen (mArgs [(mVar 1)])) (ret (.int 0))) (mBlt fAll (mArgs [(mLc (mEnum (mVar 1)) [2, 3] (setTup 2 [(setN 2), (setN 3)]) (ret true) (mCall 3 f_is_node (mArgs [(mVar 0), (mVar 2), (mVar 3)])))])))))
    sNx))
noncomputable def f_is_tree : FD := runF 4 b_is_tree
theorem g_is_tree (B : Bt mg) (d_need_arities : Df P w K mg base "need_arities" 4 1 f_need_arities) (d_is_node : Df P w K mg base "is_node" 4 3 f_is_node) {f : Addr} {fd : FuncData} (F : Fun K "is_tree" "is_tree" s_is_tree f fd) : FnG P w K mg base (L2.CX P w) 5 f fd ["arities", "thing"] (spF K 2 f_is_tree) := by
  refine fng_df F sc_is_tree fun cd A ou s H E hg hr => ?_
  have hu := hu64 hr
  have hu2 := hu66 hr
  exact (dss_cons (ds_expr (de_call d_need_arities hg (hr.mono (by decide)) passC rfl (da_cons (xv 0) da_nil) rfl rfl rfl) rfl)
    (dss_cons (ds_ret (de_and (de_blt call_isi cal_isi rfl B.isinstance (by decide +kernel) (da_cons (xv 1) (da_cons (de_tyn rfl B.tuple (by decide +kernel) (by decide) rfl) da_nil)) (by decide) rfl rfl rfl) (de_and (de_cmp (op_gt) opd_gt (de_blt call_len_seq cal_len rfl B.len PySem.boot_len (da_cons (xv 1) da_nil) (by decide) rfl rfl rfl) de_int (nomark _)) (de_one (de_blt (cr_all rfl) cal_all rfl B.all (by decide +kernel) (da_cons (de_lc (own := [("place", 2), ("node", 3)]) rfl sc_is_tree.nd (di_enumT rfl B.enumerate (da_cons (xv 1) da_nil) rfl) (blkOk_by (N := ["arities", "thing", "place", "node"]) (sc := defScope s_is_tree) (by decide +kernel)) (fun _ _ _ _ _ => (dg_tup rfl (dgs_cons (xg sc_is_tree.nd 2) (dgs_cons (xg sc_is_tree.nd 3) dgs_nil)) rfl rfl)) (fun _ _ _ _ _ => dts_nil) (fun _ _ _ _ _ => (de_call d_is_node hg (hr.mono (by decide)) passL rfl (da_cons (xv 0) (da_cons (xv 2) (da_cons (xv 3) da_nil))) rfl rfl rfl)) (by intro _; rfl) (by decide)) da_nil) (by decide) rfl rfl rfl)))))
    dss_nil))
abbrev s_is_step : Stmt := topS 16
theorem sc_is_step : FnScope ["arities", "thing", "operator", "place", "siblings", "sibling"] ["arities", "thing"] (defScope s_is_step) := ⟨rfl, rfl, rfl, by decide +kernel, rfl, by decide +kernel, by decide +kernel⟩
noncomputable def b_is_step : MS :=
    (sSeq (sIf (mOr (mNot (mTru (mBlt fIsi (mArgs [(mVar 1), (ret (.ty "tuple"))])))) (mB (mOp fNeA (mBlt fLen (mArgs [(mVar 1)])) (ret (.int 3))))) (sSeq (sRet (ret (.bl false)))
    sNx) sNx)
    (sSeq (sAsg (mVar 1) (setTup 3 [(setN 2), (setN 3), (setN 4)]))
    (sSeq (sRet (mAndV (mCall 2 f_is_operator (mArgs [(mVar 0), (mVar 2)])) (mAndV (mCall 3 f_is_between (mArgs [(mVar 3), (ret (.int 0)), (mOp fSubB (mOp fIx (mVar 0) (mVar 2)) (ret (.int 1)))])) (mAndV (mBlt fIsi (mArgs [(mVar 4), (ret (.ty "tuple"))])) (mAndV (mOp fEqA (mBlt fLen (mArgs [(mVar 4)])) (mOp fSubB (mOp fIx (mVar 0) (mVar 2)) (ret (.int 1)))) (mBlt fAll (mArgs [(mLc (mIter (mVar 4)) [5] (setN 5) (ret true) (mCall 2 f_is_tree (mArgs [(mVar 0), (mVar 5)])))])))))))
    sNx)))
noncomputable def f_is_step : FD := runF 6 b_is_step
theorem g_is_step (B : Bt mg) (d_is_operator : Df P w K mg base "is_operator" 3 2 f_is_operator) (d_is_between : Df P w K mg base "is_between" 2 3 f_is_between) (d_is_tree : Df P w K mg base "is_tree" 5 2 f_is_tree) {f : Addr} {fd : FuncData} (F : Fun K "is_step" "is_step" s_is_step f fd) : FnG P w K mg base (L2.CX P w) 6 f fd ["arities", "thing"] (spF K 2 f_is_step) := by
  refine fng_df F sc_is_step fun cd A ou s H E hg hr => ?_
  have hu := hu64 hr
  have hu2 := hu66 hr
  exact (dss_cons (ds_if (PW.pt (dw_or (dt_not (dt_tru (de_blt call_isi cal_isi rfl B.isinstance (by decide +kernel) (da_cons (xv 1) (da_cons (de_tyn rfl B.tuple (by decide +kernel) (by decide) rfl) da_nil)) (by decide) rfl rfl rfl) fun _ => rfl)) (dw_or1 (dt_cmp (op_neA hu) opd_neA (de_blt call_len_seq cal_len rfl B.len PySem.boot_len (da_cons (xv 1) da_nil) (by decide) rfl rfl rfl) de_int (nomark _))))) (dss_cons (ds_ret de_bl)
    dss_nil) dss_nil)
    (dss_cons (ds_asg (xv 1) (dg_tup rfl (dgs_cons (xg sc_is_step.nd 2) (dgs_cons (xg sc_is_step.nd 3) (dgs_cons (xg sc_is_step.nd 4) dgs_nil))) rfl rfl) rfl rfl rfl)
    (dss_cons (ds_ret (de_and (de_call d_is_operator hg (hr.mono (by decide)) passC rfl (da_cons (xv 0) (da_cons (xv 2) da_nil)) rfl rfl rfl) (de_and (de_call d_is_between hg (hr.mono (by decide)) passC rfl (da_cons (xv 3) (da_cons de_int (da_cons (de_op (op_subBI.or op_sub) (opd_BI opd_sub) (de_ix (xv 0) (xv 2) fun _ _ => rfl) de_int) da_nil))) rfl rfl rfl) (de_and (de_blt call_isi cal_isi rfl B.isinstance (by decide +kernel) (da_cons (xv 4) (da_cons (de_tyn rfl B.tuple (by decide +kernel) (by decide) rfl) da_nil)) (by decide) rfl rfl rfl) (de_and (de_cmp (op_eqA hu) opd_eqA (de_blt call_len_seq cal_len rfl B.len PySem.boot_len (da_cons (xv 4) da_nil) (by decide) rfl rfl rfl) (de_op (op_subBI.or op_sub) (opd_BI opd_sub) (de_ix (xv 0) (xv 2) fun _ _ => rfl) de_int) (nomark _)) (de_one (de_blt (cr_all rfl) cal_all rfl B.all (by decide +kernel) (da_cons (de_lc (own := [("sibling", 5)]) rfl sc_is_step.nd (di_seq (xv 4)) (blkOk_by (N := ["arities", "thing", "operator", "place", "siblings", "sibling"]) (sc := defScope s_is_step) (by decide +kernel)) (fun _ _ _ _ _ => (xg sc_is_step.nd 5)) (fun _ _ _ _ _ => dts_nil) (fun _ _ _ _ _ => (de_call d_is_tree hg (hr.mono (by decide)) passL rfl (da_cons (xv 0) (da_cons (xv 5) da_nil)) rfl rfl rfl)) (by intro _; rfl) (by decide)) da_nil) (by decide) rfl rfl rfl)))))))
    dss_nil)))
abbrev s_is_context : Stmt := topS 17
theorem sc_is_context : FnScope ["arities", "thing", "step"] ["arities", "thing"] (defScope s_is_context) := ⟨rfl, rfl, rfl, by decide +kernel, rfl, by decide +kernel, by decide +kernel⟩
noncomputable def b_is_context : MS :=
    (sSeq (sExpr (mCall 1 f_need_arities (mArgs [(mVar 0)])))
    (sSeq (sRet (mAndV (mBlt fIsi (mArgs [(mVar 1), (ret (.ty "tuple"))])) (mBlt fAll (mArgs [(mLc (mIter (mVar 1)) [2] (setN 2) (ret true) (mCall 2 f_is_step (mArgs [(mVar 0), (mVar 2)])))]))))
    sNx))
noncomputable def f_is_context : FD := runF 3 b_is_context
theorem g_is_context (B : Bt mg) (d_need_arities : Df P w K mg base "need_arities" 4 1 f_need_arities) (d_is_step : Df P w K mg base "is_step" 6 2 f_is_step) {f : Addr} {fd : FuncData} (F : Fun K "is_context" "is_context" s_is_context f fd) : FnG P w K mg base (L2.CX P w) 7 f fd ["arities", "thing"] (spF K 2 f_is_context) := by
  refine fng_df F sc_is_context fun cd A ou s H E hg hr => ?_
  have hu := hu64 hr
  have hu2 := hu66 hr
  exact (dss_cons (ds_expr (de_call d_need_arities hg (hr.mono (by decide)) passC rfl (da_cons (xv 0) da_nil) rfl rfl rfl) rfl)
    (dss_cons (ds_ret (de_and (de_blt call_isi cal_isi rfl B.isinstance (by decide +kernel) (da_cons (xv 1) (da_cons (de_tyn rfl B.tuple (by decide +kernel) (by decide) rfl) da_nil)) (by decide) rfl rfl rfl) (de_one (de_blt (cr_all rfl) cal_all rfl B.all (by decide +kernel) (da_cons (de_lc (own := [("step", 2)]) rfl sc_is_context.nd (di_seq (xv 1)) (blkOk_by (N := ["arities", "thing", "step"]) (sc := defScope s_is_context) (by decide +kernel)) (fun _ _ _ _ _ => (xg sc_is_context.nd 2)) (fun _ _ _ _ _ => dts_nil) (fun _ _ _ _ _ => (de_call d_is_step hg (hr.mono (by decide)) passL rfl (da_cons (xv 0) (da_cons (xv 2) da_nil)) rfl rfl rfl)) (by intro _; rfl) (by decide)) da_nil) (by decide) rfl rfl rfl))))
    dss_nil))
abbrev s__law_refused : Stmt := topS 27
theorem sc__law_refused : FnScope ["_law_thing", "error"] ["_law_thing"] (defScope s__law_refused) := ⟨rfl, rfl, rfl, by decide +kernel, rfl, by decide +kernel, by decide +kernel⟩
noncomputable def b__law_refused : MS :=
    (sSeq (sTryE 1 kwL (fun n => some (.bl (isaX n "NoArities"))) (mCall 2 f_is_context (mArgs [(mVar 0), (mTup [])])))
    (sSeq (sRet (ret (.bl false)))
    sNx))
noncomputable def f__law_refused : FD := runF 2 b__law_refused
theorem g__law_refused (B : Bt mg) (cm_NoArities : mg "NoArities" = some (.ref (clsA K "NoArities"))) (cm_PickError : mg "PickError" = some (.ref (clsA K "PickError"))) (kns : ∀ n wd, (n, wd) ∈ kwL → KndC K csL n) (d_is_context : Df P w K mg base "is_context" 7 2 f_is_context) {f : Addr} {fd : FuncData} (F : Fun K "_law_refused" "_law_refused" s__law_refused f fd) : FnG P w K mg base (L2.CX P w) 8 f fd ["_law_thing"] (spF K 1 f__law_refused) := by
  refine fng_df F sc__law_refused fun cd A ou s H E hg hr => ?_
  have hu := hu64 hr
  have hu2 := hu66 hr
  exact (dss_cons (ds_tryE (i := 1) (ms := fun a n => (sSeq (sRet (mBlt (fIsC csL a n) (mArgs [(mVar 1), (ret (.cln "NoArities"))])))
    sNx)) kns rfl rfl sc__law_refused.nd rfl rfl ⟨rfl, by decide, .inl cm_PickError⟩ (fun W pn xe tk => de_callW d_is_context hg (hr.mono (by decide)) tk rfl (fun E => (da_cons (xv 0) (da_cons (de_tup da_nil) da_nil))) rfl rfl rfl) rfl (fun a oe n wd pn hn hz hf => by
      have kn := kns n wd hn
      exact (dss_cons (ds_ret (de_blt (call_isP List.mem_cons_self kn.e hz hf) (cal_isC kn) rfl B.isinstance (by decide +kernel) (da_cons (xv 1) (da_cons (de_cln rfl cm_NoArities rfl) da_nil)) (by decide) rfl rfl rfl))
    dss_nil)) (fun a n wd en st d hn hd hl => suite_is (by decide +kernel) a n en st d hd hl))
    (dss_cons (ds_ret de_bl)
    dss_nil))
abbrev s__law_cell_at : Stmt := topS 19
theorem sc__law_cell_at : FnScope ["_law_script", "_law_k"] ["_law_script", "_law_k"] (defScope s__law_cell_at) := ⟨rfl, rfl, rfl, by decide +kernel, rfl, by decide +kernel, by decide +kernel⟩
noncomputable def b__law_cell_at : MS :=
    (sSeq (sIf (mB (mOp fLt (mVar 1) (mBlt fLen (mArgs [(mVar 0)])))) (sSeq (sRet (mOp fIx (mVar 0) (mVar 1)))
    sNx) sNx)
    (sSeq (sRet (ret (.int 0)))
    sNx))
noncomputable def f__law_cell_at : FD := runF 2 b__law_cell_at
theorem g__law_cell_at (B : Bt mg)  {f : Addr} {fd : FuncData} (F : Fun K "_law_cell_at" "_law_cell_at" s__law_cell_at f fd) : FnG P w K mg base (L2.CX P w) 1 f fd ["_law_script", "_law_k"] (spF K 2 f__law_cell_at) := by
  refine fng_df F sc__law_cell_at fun cd A ou s H E hg hr => ?_
  have hu := hu64 hr
  have hu2 := hu66 hr
  exact (dss_cons (ds_if (dt_cmp (op_lt) opd_lt (xv 1) (de_blt call_len_seq cal_len rfl B.len PySem.boot_len (da_cons (xv 0) da_nil) (by decide) rfl rfl rfl) (nomark _)) (dss_cons (ds_ret (de_ix (xv 0) (xv 1) fun _ _ => rfl))
    dss_nil) dss_nil)
    (dss_cons (ds_ret de_int)
    dss_nil))
abbrev s__law_draw : Stmt := topS 21
theorem sc__law_draw : FnScope ["_law_pen_here", "_law_many", "_law_digit", "_law_stir"] ["_law_pen_here", "_law_many"] (defScope s__law_draw) := ⟨rfl, rfl, rfl, by decide +kernel, rfl, by decide +kernel, by decide +kernel⟩
noncomputable def b__law_draw : MS :=
    (sSeq (sIf (mB (mOp fGt (mOp fIx (mVar 0) (ret (.int 0))) (ret (.int 0)))) (sSeq (sAsg (mOp fMod (mOp fIx (mVar 0) (ret (.int 0))) (mVar 1)) (setN 2))
    (sSeq (sPut (mOp fDiv (mOp fIx (mVar 0) (ret (.int 0))) (mVar 1)) (mVar 0) (ret (.int 0)))
    (sSeq (sRet (mVar 2))
    sNx))) sNx)
    (sSeq (sPut (mOp fAddB (mOp fIx (mVar 0) (ret (.int 2))) (ret (.int 1))) (mVar 0) (ret (.int 2)))
    (sSeq (sAsg (mOp fMod (mOp fMulA (mOp fAddB (mOp fIx (mVar 0) (ret (.int 1))) (mOp fMulA (ret (.int 17)) (mOp fIx (mVar 0) (ret (.int 2))))) (mOp fAddB (ret (.int 69621)) (mOp fMulA (ret (.int 2)) (mOp fIx (mVar 0) (ret (.int 2)))))) (ret (.int 2147483647))) (setN 3))
    (sSeq (sAsg (mOp fMod (mOp fAddB (mOp fAddB (mOp fMulA (mVar 3) (mVar 3)) (mOp fMulA (ret (.int 40503)) (mOp fIx (mVar 0) (ret (.int 2))))) (ret (.int 5))) (ret (.int 2147483629))) (setN 3))
    (sSeq (sRet (mOp fMod (mOp fDiv (mOp fMod (mOp fMulA (mVar 3) (ret (.int 48271))) (ret (.int 2147483647))) (ret (.int 32))) (mVar 1)))
    sNx)))))
noncomputable def f__law_draw : FD := runF 4 b__law_draw
theorem g__law_draw (B : Bt mg)  {f : Addr} {fd : FuncData} (F : Fun K "_law_draw" "_law_draw" s__law_draw f fd) : FnG P w K mg base (L2.CX P w) 1 f fd ["_law_pen_here", "_law_many"] (spF K 2 f__law_draw) := by
  refine fng_df F sc__law_draw fun cd A ou s H E hg hr => ?_
  have hu := hu64 hr
  have hu2 := hu66 hr
  exact (dss_cons (ds_if (dt_cmp (op_gt) opd_gt (de_ix (xv 0) de_int fun _ _ => rfl) de_int (nomark _)) (dss_cons (xs sc__law_draw.nd 2 (de_op op_mod opd_mod (de_ix (xv 0) de_int fun _ _ => rfl) (xv 1)))
    (dss_cons (ds_put (de_op op_fdivW opd_div (de_ix (xv 0) de_int fun _ _ => rfl) (xv 1)) (xv 0) de_int (fun ho hi => pg_sub ho hi set_list) rfl rfl rfl)
    (dss_cons (ds_ret (xv 2))
    dss_nil))) dss_nil)
    (dss_cons (ds_put (de_op (op_addBI.or op_addA) (opd_BI opd_add) (de_ix (xv 0) de_int fun _ _ => rfl) de_int) (xv 0) de_int (fun ho hi => pg_sub ho hi set_list) rfl rfl rfl)
    (dss_cons (xs sc__law_draw.nd 3 (de_op op_mod opd_mod (de_op op_mulT opd_mulT (de_op (op_addBI.or op_addA) (opd_BI opd_add) (de_ix (xv 0) de_int fun _ _ => rfl) (de_op op_mulT opd_mulT de_int (de_ix (xv 0) de_int fun _ _ => rfl))) (de_op (op_addBI.or op_addA) (opd_BI opd_add) de_int (de_op op_mulT opd_mulT de_int (de_ix (xv 0) de_int fun _ _ => rfl)))) de_int))
    (dss_cons (xs sc__law_draw.nd 3 (de_op op_mod opd_mod (de_op (op_addBI.or op_addA) (opd_BI opd_add) (de_op (op_addBI.or op_addA) (opd_BI opd_add) (de_op op_mulT opd_mulT (xv 3) (xv 3)) (de_op op_mulT opd_mulT de_int (de_ix (xv 0) de_int fun _ _ => rfl))) de_int) de_int))
    (dss_cons (ds_ret (de_op op_mod opd_mod (de_op op_fdivW opd_div (de_op op_mod opd_mod (de_op op_mulT opd_mulT (xv 3) de_int) de_int) de_int) (xv 1)))
    dss_nil)))))
abbrev s__law_pick : Stmt := topS 22
theorem sc__law_pick : FnScope ["_law_pen_here", "_law_some"] ["_law_pen_here", "_law_some"] (defScope s__law_pick) := ⟨rfl, rfl, rfl, by decide +kernel, rfl, by decide +kernel, by decide +kernel⟩
noncomputable def b__law_pick : MS :=
    (sSeq (sRet (mOp fIx (mVar 1) (mCall 2 f__law_draw (mArgs [(mVar 0), (mBlt fLen (mArgs [(mVar 1)]))]))))
    sNx)
noncomputable def f__law_pick : FD := runF 2 b__law_pick
theorem g__law_pick (B : Bt mg) (d__law_draw : Df P w K mg base "_law_draw" 1 2 f__law_draw) {f : Addr} {fd : FuncData} (F : Fun K "_law_pick" "_law_pick" s__law_pick f fd) : FnG P w K mg base (L2.CX P w) 2 f fd ["_law_pen_here", "_law_some"] (spF K 2 f__law_pick) := by
  refine fng_df F sc__law_pick fun cd A ou s H E hg hr => ?_
  have hu := hu64 hr
  have hu2 := hu66 hr
  exact (dss_cons (ds_ret (de_ix (xv 1) (de_call d__law_draw hg (hr.mono (by decide)) passC rfl (da_cons (xv 0) (da_cons (de_blt call_len_seq cal_len rfl B.len PySem.boot_len (da_cons (xv 1) da_nil) (by decide) rfl rfl rfl) da_nil)) rfl rfl rfl) fun _ _ => rfl))
    dss_nil)
abbrev s__law_tree : Stmt := topS 24
theorem sc__law_tree : FnScope ["_law_pen_here", "_law_arities_here", "_law_most", "_law_leaves", "_law_operator", "_law_arity", "_law_found", "_law_turn", "_law_last", "_law_parts", "_law_place"] ["_law_pen_here", "_law_arities_here", "_law_most"] (defScope s__law_tree) := ⟨rfl, rfl, rfl, by decide +kernel, rfl, by decide +kernel, by decide +kernel⟩
noncomputable def b__law_tree : MS :=
    (sSeq (sAsg (mLc (mEnum (mVar 1)) [4, 5] (setTup 2 [(setN 4), (setN 5)]) (mB (mOp fEqA (mVar 5) (ret (.int 0)))) (mVar 4)) (setN 3))
    (sSeq (sAsg (mLst [(mTup [(mCall 2 f__law_pick (mArgs [(mVar 0), (mVar 3)]))])]) (setN 6))
    (sSeq (sFor (mRng1 (mCall 2 f__law_draw (mArgs [(mVar 0), (mVar 2)]))) (setN 7) (sSeq (sAsg (mCall 2 f__law_draw (mArgs [(mVar 0), (mBlt fLen (mArgs [(mVar 1)]))])) (setN 4))
    (sSeq (sAsg (mOp fSubB (mBlt fLen (mArgs [(mVar 6)])) (ret (.int 1))) (setN 8))
    (sSeq (sAsg (mLc (mRng1 (mOp fIx (mVar 1) (mVar 4))) [10] (setN 10) (ret true) (mIf (mB (mOp fEqA (mCall 2 f__law_draw (mArgs [(mVar 0), (ret (.int 2))])) (ret (.int 0)))) (mVar 8) (mCall 2 f__law_draw (mArgs [(mVar 0), (mBlt fLen (mArgs [(mVar 6)]))])))) (setN 9))
    (sSeq (sExpr (mApp (mVar 6) (mOp fAddB (mTup [(mVar 4)]) (mBlt fTuple (mArgs [(mVar 9)])))))
    sNx)))))
    (sSeq (sRet (mBlt fTuple (mArgs [(mVar 6)])))
    sNx))))
noncomputable def f__law_tree : FD := runF 11 b__law_tree
theorem g__law_tree (B : Bt mg) (d__law_draw : Df P w K mg base "_law_draw" 1 2 f__law_draw) (d__law_pick : Df P w K mg base "_law_pick" 2 2 f__law_pick) {f : Addr} {fd : FuncData} (F : Fun K "_law_tree" "_law_tree" s__law_tree f fd) : FnG P w K mg base (L2.CX P w) 3 f fd ["_law_pen_here", "_law_arities_here", "_law_most"] (spF K 3 f__law_tree) := by
  refine fng_df F sc__law_tree fun cd A ou s H E hg hr => ?_
  have hu := hu64 hr
  have hu2 := hu66 hr
  exact (dss_cons (ds_setLc (i := 3) (own := [("_law_operator", 4), ("_law_arity", 5)]) rfl sc__law_tree.nd rfl rfl (sw_true rfl rfl rfl (by decide +kernel)) (di_enumT rfl B.enumerate (da_cons (xv 1) da_nil) rfl) (blkOk_by (N := ["_law_pen_here", "_law_arities_here", "_law_most", "_law_leaves", "_law_operator", "_law_arity", "_law_found", "_law_turn", "_law_last", "_law_parts", "_law_place"]) (sc := defScope s__law_tree) (by decide +kernel)) (fun _ _ _ _ _ => (dg_tup rfl (dgs_cons (xg sc__law_tree.nd 4) (dgs_cons (xg sc__law_tree.nd 5) dgs_nil)) rfl rfl)) (fun _ _ _ _ _ => (dts_one (dt_cmp (op_eqA hu) opd_eqA (xv 5) de_int (nomark _)))) (fun _ _ _ _ _ => (xv 4)) (by intro _; rfl) (by decide))
    (dss_cons (xs sc__law_tree.nd 6 (de_lst (da_cons (de_tup (da_cons (de_call d__law_pick hg (hr.mono (by decide)) passC rfl (da_cons (xv 0) (da_cons (xv 3) da_nil)) rfl rfl rfl) da_nil)) da_nil)))
    (dss_cons (ds_for ownC rfl (di_rng1 rfl B.range (da_cons (de_call d__law_draw hg (hr.mono (by decide)) passC rfl (da_cons (xv 0) (da_cons (xv 2) da_nil)) rfl rfl rfl) da_nil) rfl) (xg sc__law_tree.nd 7) (dss_cons (xs sc__law_tree.nd 4 (de_call d__law_draw hg (hr.mono (by decide)) passC rfl (da_cons (xv 0) (da_cons (de_blt call_len_seq cal_len rfl B.len PySem.boot_len (da_cons (xv 1) da_nil) (by decide) rfl rfl rfl) da_nil)) rfl rfl rfl))
    (dss_cons (xs sc__law_tree.nd 8 (de_op (op_subBI.or op_sub) (opd_BI opd_sub) (de_blt call_len_seq cal_len rfl B.len PySem.boot_len (da_cons (xv 6) da_nil) (by decide) rfl rfl rfl) de_int))
    (dss_cons (ds_setLc (i := 9) (own := [("_law_place", 10)]) rfl sc__law_tree.nd rfl rfl (sw_true rfl rfl rfl (by decide +kernel)) (di_rng1 rfl B.range (da_cons (de_ix (xv 1) (xv 4) fun _ _ => rfl) da_nil) rfl) (blkOk_by (N := ["_law_pen_here", "_law_arities_here", "_law_most", "_law_leaves", "_law_operator", "_law_arity", "_law_found", "_law_turn", "_law_last", "_law_parts", "_law_place"]) (sc := defScope s__law_tree) (by decide +kernel)) (fun _ _ _ _ _ => (xg sc__law_tree.nd 10)) (fun _ _ _ _ _ => dts_nil) (fun _ _ _ _ _ => (de_if (dt_cmp (op_eqA hu) opd_eqA (de_call d__law_draw hg (hr.mono (by decide)) passL rfl (da_cons (xv 0) (da_cons de_int da_nil)) rfl rfl rfl) de_int (nomark _)) (xv 8) (de_call d__law_draw hg (hr.mono (by decide)) passL rfl (da_cons (xv 0) (da_cons (de_blt call_len_seq cal_len rfl B.len PySem.boot_len (da_cons (xv 6) da_nil) (by decide) rfl rfl rfl) da_nil)) rfl rfl rfl))) (by intro _; rfl) (by decide))
    (dss_cons (ds_expr (de_app (xv 6) (da_cons (de_op (op_addBI.or op_addA) (opd_BI opd_add) (de_tup (da_cons (xv 4) da_nil)) (de_bty call_tuple_of cal_tuple rfl B.tuple (by decide +kernel) (da_cons (xv 9) da_nil) (by decide) rfl rfl rfl)) da_nil) fun ho ha => pe_bm PySem.F.plainAttrs_list PySem.F.slot_list_append PySem.F.type_list_append mt_append ho ha) rfl)
    dss_nil)))) (by intro _; rfl))
    (dss_cons (ds_ret (de_bty call_tuple_of cal_tuple rfl B.tuple (by decide +kernel) (da_cons (xv 6) da_nil) (by decide) rfl rfl rfl))
    dss_nil))))
abbrev s__law_context : Stmt := topS 25
theorem sc__law_context : FnScope ["_law_pen_here", "_law_arities_here", "_law_most", "_law_some", "_law_operator", "_law_arity", "_law_found", "_law_turn", "_law_others", "_law_place"] ["_law_pen_here", "_law_arities_here", "_law_most"] (defScope s__law_context) := ⟨rfl, rfl, rfl, by decide +kernel, rfl, by decide +kernel, by decide +kernel⟩
noncomputable def b__law_context : MS :=
    (sSeq (sAsg (mLc (mEnum (mVar 1)) [4, 5] (setTup 2 [(setN 4), (setN 5)]) (mB (mOp fGt (mVar 5) (ret (.int 0)))) (mVar 4)) (setN 3))
    (sSeq (sAsg (mLst []) (setN 6))
    (sSeq (sFor (mRng1 (mIf (mB (mOp fNeA (mVar 3) (mLst []))) (mCall 2 f__law_draw (mArgs [(mVar 0), (mOp fAddB (ret (.int 1)) (mVar 2))])) (ret (.int 0)))) (setN 7) (sSeq (sAsg (mCall 2 f__law_pick (mArgs [(mVar 0), (mVar 3)])) (setN 4))
    (sSeq (sAsg (mBlt fTuple (mArgs [(mLc (mRng1 (mOp fSubB (mOp fIx (mVar 1) (mVar 4)) (ret (.int 1)))) [9] (setN 9) (ret true) (mCall 3 f__law_tree (mArgs [(mVar 0), (mVar 1), (ret (.int 3))])))])) (setN 8))
    (sSeq (sExpr (mApp (mVar 6) (mTup [(mVar 4), (mCall 2 f__law_draw (mArgs [(mVar 0), (mOp fIx (mVar 1) (mVar 4))])), (mVar 8)])))
    sNx))))
    (sSeq (sRet (mBlt fTuple (mArgs [(mVar 6)])))
    sNx))))
noncomputable def f__law_context : FD := runF 10 b__law_context
theorem g__law_context (B : Bt mg) (d__law_pick : Df P w K mg base "_law_pick" 2 2 f__law_pick) (d__law_draw : Df P w K mg base "_law_draw" 1 2 f__law_draw) (d__law_tree : Df P w K mg base "_law_tree" 3 3 f__law_tree) {f : Addr} {fd : FuncData} (F : Fun K "_law_context" "_law_context" s__law_context f fd) : FnG P w K mg base (L2.CX P w) 4 f fd ["_law_pen_here", "_law_arities_here", "_law_most"] (spF K 3 f__law_context) := by
  refine fng_df F sc__law_context fun cd A ou s H E hg hr => ?_
  have hu := hu64 hr
  have hu2 := hu66 hr
  exact (dss_cons (ds_setLc (i := 3) (own := [("_law_operator", 4), ("_law_arity", 5)]) rfl sc__law_context.nd rfl rfl (sw_true rfl rfl rfl (by decide +kernel)) (di_enumT rfl B.enumerate (da_cons (xv 1) da_nil) rfl) (blkOk_by (N := ["_law_pen_here", "_law_arities_here", "_law_most", "_law_some", "_law_operator", "_law_arity", "_law_found", "_law_turn", "_law_others", "_law_place"]) (sc := defScope s__law_context) (by decide +kernel)) (fun _ _ _ _ _ => (dg_tup rfl (dgs_cons (xg sc__law_context.nd 4) (dgs_cons (xg sc__law_context.nd 5) dgs_nil)) rfl rfl)) (fun _ _ _ _ _ => (dts_one (dt_cmp (op_gt) opd_gt (xv 5) de_int (nomark _)))) (fun _ _ _ _ _ => (xv 4)) (by intro _; rfl) (by decide))
    (dss_cons (xs sc__law_context.nd 6 (de_lst da_nil))
    (dss_cons (ds_for ownC rfl (di_rng1 rfl B.range (da_cons (de_if (dt_cmp (op_neA hu) opd_neA (xv 3) (de_lst da_nil) (nomark _)) (de_call d__law_draw hg (hr.mono (by decide)) passC rfl (da_cons (xv 0) (da_cons (de_op (op_addBI.or op_addA) (opd_BI opd_add) de_int (xv 2)) da_nil)) rfl rfl rfl) de_int) da_nil) rfl) (xg sc__law_context.nd 7) (dss_cons (xs sc__law_context.nd 4 (de_call d__law_pick hg (hr.mono (by decide)) passC rfl (da_cons (xv 0) (da_cons (xv 3) da_nil)) rfl rfl rfl))
    (dss_cons (xs sc__law_context.nd 8 (de_bty call_tuple_of cal_tuple rfl B.tuple (by decide +kernel) (da_cons (de_lc (own := [("_law_place", 9)]) rfl sc__law_context.nd (di_rng1 rfl B.range (da_cons (de_op (op_subBI.or op_sub) (opd_BI opd_sub) (de_ix (xv 1) (xv 4) fun _ _ => rfl) de_int) da_nil) rfl) (blkOk_by (N := ["_law_pen_here", "_law_arities_here", "_law_most", "_law_some", "_law_operator", "_law_arity", "_law_found", "_law_turn", "_law_others", "_law_place"]) (sc := defScope s__law_context) (by decide +kernel)) (fun _ _ _ _ _ => (xg sc__law_context.nd 9)) (fun _ _ _ _ _ => dts_nil) (fun _ _ _ _ _ => (de_call d__law_tree hg (hr.mono (by decide)) passL rfl (da_cons (xv 0) (da_cons (xv 1) (da_cons de_int da_nil))) rfl rfl rfl)) (by intro _; rfl) (by decide)) da_nil) (by decide) rfl rfl rfl))
    (dss_cons (ds_expr (de_app (xv 6) (da_cons (de_tup (da_cons (xv 4) (da_cons (de_call d__law_draw hg (hr.mono (by decide)) passC rfl (da_cons (xv 0) (da_cons (de_ix (xv 1) (xv 4) fun _ _ => rfl) da_nil)) rfl rfl rfl) (da_cons (xv 8) da_nil)))) da_nil) fun ho ha => pe_bm PySem.F.plainAttrs_list PySem.F.slot_list_append PySem.F.type_list_append mt_append ho ha) rfl)
    dss_nil))) (by intro _; rfl))
    (dss_cons (ds_ret (de_bty call_tuple_of cal_tuple rfl B.tuple (by decide +kernel) (da_cons (xv 6) da_nil) (by decide) rfl rfl rfl))
    dss_nil))))
abbrev s__law_arities : Stmt := topS 23
theorem sc__law_arities : FnScope ["_law_pen_here", "_law_some", "_law_turn", "_law_at"] ["_law_pen_here"] (defScope s__law_arities) := ⟨rfl, rfl, rfl, by decide +kernel, rfl, by decide +kernel, by decide +kernel⟩
noncomputable def b__law_arities : MS :=
    (sSeq (sAsg (mOp fAddB (mLst [(ret (.int 0))]) (mLc (mRng1 (mCall 2 f__law_draw (mArgs [(mVar 0), (ret (.int 4))]))) [2] (setN 2) (ret true) (mCall 2 f__law_pick (mArgs [(mVar 0), (mLst [(ret (.int 0)), (ret (.int 1)), (ret (.int 1)), (ret (.int 2)), (ret (.int 2))])])))) (setN 1))
    (sSeq (sAsg (mCall 2 f__law_draw (mArgs [(mVar 0), (mBlt fLen (mArgs [(mVar 1)]))])) (setN 3))
    (sSeq (sRet (mBlt fTupN (mArgs [(mOp fAddB (mSl (mVar 1) (some (mVar 3)) none) (mSl (mVar 1) none (some (mVar 3))))])))
    sNx)))
noncomputable def f__law_arities : FD := runF 4 b__law_arities
theorem g__law_arities (B : Bt mg) (d__law_draw : Df P w K mg base "_law_draw" 1 2 f__law_draw) (d__law_pick : Df P w K mg base "_law_pick" 2 2 f__law_pick) {f : Addr} {fd : FuncData} (F : Fun K "_law_arities" "_law_arities" s__law_arities f fd) : FnG P w K mg base (L2.CX P w) 3 f fd ["_law_pen_here"] (spF K 1 f__law_arities) := by
  refine fng_df F sc__law_arities fun cd A ou s H E hg hr => ?_
  have hu := hu64 hr
  have hu2 := hu66 hr
  exact (dss_cons (xs sc__law_arities.nd 1 (de_op (op_addBI.or op_addA) (opd_BI opd_add) (de_lst (da_cons de_int da_nil)) (de_lc (own := [("_law_turn", 2)]) rfl sc__law_arities.nd (di_rng1 rfl B.range (da_cons (de_call d__law_draw hg (hr.mono (by decide)) passC rfl (da_cons (xv 0) (da_cons de_int da_nil)) rfl rfl rfl) da_nil) rfl) (blkOk_by (N := ["_law_pen_here", "_law_some", "_law_turn", "_law_at"]) (sc := defScope s__law_arities) (by decide +kernel)) (fun _ _ _ _ _ => (xg sc__law_arities.nd 2)) (fun _ _ _ _ _ => dts_nil) (fun _ _ _ _ _ => (de_call d__law_pick hg (hr.mono (by decide)) passL rfl (da_cons (xv 0) (da_cons (de_lst (da_cons de_int (da_cons de_int (da_cons de_int (da_cons de_int (da_cons de_int da_nil)))))) da_nil)) rfl rfl rfl)) (by intro _; rfl) (by decide))))
    (dss_cons (xs sc__law_arities.nd 3 (de_call d__law_draw hg (hr.mono (by decide)) passC rfl (da_cons (xv 0) (da_cons (de_blt call_len_seq cal_len rfl B.len PySem.boot_len (da_cons (xv 1) da_nil) (by decide) rfl rfl rfl) da_nil)) rfl rfl rfl))
    (dss_cons (ds_ret (de_bty call_tuple_frz cal_tupN rfl B.tuple (by decide +kernel) (da_cons (de_op (op_addBI.or op_addA) (opd_BI opd_add) (de_sl (xv 1) (do_some (xv 3)) do_none) (de_sl (xv 1) do_none (do_some (xv 3)))) da_nil) (by decide) rfl rfl rfl))
    dss_nil)))
abbrev s__law_odd_ones : Stmt := topS 26
theorem sc__law_odd_ones : FnScope ["_law_arities_here", "_law_leg", "_law_operator", "_law_place", "_law_others", "_law_leaf", "_law_found", "_law_bad"] ["_law_arities_here", "_law_leg"] (defScope s__law_odd_ones) := ⟨rfl, rfl, rfl, by decide +kernel, rfl, by decide +kernel, by decide +kernel⟩
noncomputable def b__law_odd_ones : MS :=
    (sSeq (sAsg (mVar 1) (setTup 3 [(setN 2), (setN 3), (setN 4)]))
    (sSeq (sAsg (mTup [(mTup [(mIdxT (mVar 0) (ret (.int 0)))])]) (setN 5))
    (sSeq (sAsg (mLst [(ret .non), (mBlt fList (mArgs [(mVar 1)])), (mSl (mVar 1) none (some (ret (.int 2)))), (mOp fAddB (mVar 1) (mTup [(ret (.int 0))])), (mOp fAddB (mTup [(mBlt fLen (mArgs [(mFg (mVar 0))]))]) (mSl (mVar 1) (some (ret (.int 1))) none)), (mOp fAddB (mTup [(mNeg (ret (.int 1)))]) (mSl (mVar 1) (some (ret (.int 1))) none)), (mOp fAddB (mTup [(ret .non)]) (mSl (mVar 1) (some (ret (.int 1))) none))]) (setN 6))
    (sSeq (sAsg (mOp fAddB (mVar 6) (mLst [(mTup [(mVar 2), (mOp fIx (mFg (mVar 0)) (mVar 2)), (mVar 4)]), (mTup [(mVar 2), (mNeg (ret (.int 1))), (mVar 4)]), (mTup [(mVar 2), (ret .non), (mVar 4)])])) (setN 6))
    (sSeq (sAsg (mOp fAddB (mVar 6) (mLst [(mTup [(mVar 2), (mVar 3), (mBlt fList (mArgs [(mVar 4)]))]), (mTup [(mVar 2), (mVar 3), (mOp fAddB (mVar 4) (mTup [(mVar 5)]))]), (mTup [(mVar 2), (mVar 3), (mVar 5)])])) (setN 6))
    (sSeq (sAsg (mOp fAddB (mVar 6) (mLst [(mTup [(mVar 2), (mVar 3), (mTup [(mVar 5), (mVar 5)])]), (mTup [(mVar 2), (mVar 3), (ret .non)]), (mTup [(mIdxT (mVar 0) (ret (.int 0))), (ret (.int 0)), (mTup [])])])) (setN 6))
    (sSeq (sAsg (mOp fAddB (mVar 6) (mLst [(mTup [(mVar 2), (mVar 3), (mOp fAddB (mOp fMulC (mTup [(mVar 5)]) (mBlt fLen (mArgs [(mVar 4)]))) (mTup [(ret .non)]))]), (mTup [(mBlt fStr (mArgs [(mVar 2)])), (mVar 3), (mVar 4)])])) (setN 6))
    (sSeq (sIf (mB (mOp fEqA (mBlt fLen (mArgs [(mVar 4)])) (ret (.int 1)))) (sSeq (sAsg (mTup [(mBlt fLen (mArgs [(mFg (mVar 0))]))]) (setN 7))
    (sSeq (sAsg (mOp fAddB (mVar 6) (mLst [(mTup [(mVar 2), (mVar 3), (mTup [])]), (mTup [(mVar 2), (mVar 3), (mTup [(mTup [])])]), (mTup [(mVar 2), (mVar 3), (mTup [(mTup [(mVar 7)])])])])) (setN 6))
    (sSeq (sAsg (mOp fAddB (mVar 6) (mLst [(mTup [(mVar 2), (mVar 3), (mTup [(mBlt fList (mArgs [(mVar 5)]))])]), (mTup [(mVar 2), (mVar 3), (mTup [(mTup [(mTup [(mVar 2), (ret (.int 0)), (ret (.int 0))])])])])])) (setN 6))
    sNx))) sNx)
    (sSeq (sRet (mOp fAddB (mVar 6) (mLst [(mTup [(mBlt fBool (mArgs [(mVar 2)])), (mVar 3), (mVar 4)]), (mTup [(mVar 2), (mOp fEqA (mVar 3) (ret (.int 1))), (mVar 4)])])))
    sNx)))))))))
noncomputable def f__law_odd_ones : FD := runF 8 b__law_odd_ones
theorem g__law_odd_ones (B : Bt mg)  {f : Addr} {fd : FuncData} (F : Fun K "_law_odd_ones" "_law_odd_ones" s__law_odd_ones f fd) : FnG P w K mg base (L2.CX P w) 1 f fd ["_law_arities_here", "_law_leg"] (spF K 2 f__law_odd_ones) := by
  refine fng_df F sc__law_odd_ones fun cd A ou s H E hg hr => ?_
  have hu := hu64 hr
  have hu2 := hu66 hr
  exact (dss_cons (ds_asg (xv 1) (dg_tup rfl (dgs_cons (xg sc__law_odd_ones.nd 2) (dgs_cons (xg sc__law_odd_ones.nd 3) (dgs_cons (xg sc__law_odd_ones.nd 4) dgs_nil))) rfl rfl) rfl rfl rfl)
    (dss_cons (xs sc__law_odd_ones.nd 5 (de_tup (da_cons (de_tup (da_cons (de_idxT (xv 0) (da_cons de_int da_nil) fun ho ha => pe_idxT ho ha) da_nil)) da_nil)))
    (dss_cons (xs sc__law_odd_ones.nd 6 (de_lst (da_cons de_non (da_cons (de_bty call_list_of cal_list rfl B.list (by decide +kernel) (da_cons (xv 1) da_nil) (by decide) rfl rfl rfl) (da_cons (de_sl (xv 1) do_none (do_some de_int)) (da_cons (de_op (op_addBI.or op_addA) (opd_BI opd_add) (xv 1) (de_tup (da_cons de_int da_nil))) (da_cons (de_op (op_addBI.or op_addA) (opd_BI opd_add) (de_tup (da_cons (de_blt call_len_seq cal_len rfl B.len PySem.boot_len (da_cons (de_fg (xv 0)) da_nil) (by decide) rfl rfl rfl) da_nil)) (de_sl (xv 1) (do_some de_int) do_none)) (da_cons (de_op (op_addBI.or op_addA) (opd_BI opd_add) (de_tup (da_cons (de_neg de_int) da_nil)) (de_sl (xv 1) (do_some de_int) do_none)) (da_cons (de_op (op_addBI.or op_addA) (opd_BI opd_add) (de_tup (da_cons de_non da_nil)) (de_sl (xv 1) (do_some de_int) do_none)) da_nil)))))))))
    (dss_cons (xs sc__law_odd_ones.nd 6 (de_op (op_addBI.or op_addA) (opd_BI opd_add) (xv 6) (de_lst (da_cons (de_tup (da_cons (xv 2) (da_cons (de_ix (de_fg (xv 0)) (xv 2) fun _ _ => rfl) (da_cons (xv 4) da_nil)))) (da_cons (de_tup (da_cons (xv 2) (da_cons (de_neg de_int) (da_cons (xv 4) da_nil)))) (da_cons (de_tup (da_cons (xv 2) (da_cons de_non (da_cons (xv 4) da_nil)))) da_nil))))))
    (dss_cons (xs sc__law_odd_ones.nd 6 (de_op (op_addBI.or op_addA) (opd_BI opd_add) (xv 6) (de_lst (da_cons (de_tup (da_cons (xv 2) (da_cons (xv 3) (da_cons (de_bty call_list_of cal_list rfl B.list (by decide +kernel) (da_cons (xv 4) da_nil) (by decide) rfl rfl rfl) da_nil)))) (da_cons (de_tup (da_cons (xv 2) (da_cons (xv 3) (da_cons (de_op (op_addBI.or op_addA) (opd_BI opd_add) (xv 4) (de_tup (da_cons (xv 5) da_nil))) da_nil)))) (da_cons (de_tup (da_cons (xv 2) (da_cons (xv 3) (da_cons (xv 5) da_nil)))) da_nil))))))
    (dss_cons (xs sc__law_odd_ones.nd 6 (de_op (op_addBI.or op_addA) (opd_BI opd_add) (xv 6) (de_lst (da_cons (de_tup (da_cons (xv 2) (da_cons (xv 3) (da_cons (de_tup (da_cons (xv 5) (da_cons (xv 5) da_nil))) da_nil)))) (da_cons (de_tup (da_cons (xv 2) (da_cons (xv 3) (da_cons de_non da_nil)))) (da_cons (de_tup (da_cons (de_idxT (xv 0) (da_cons de_int da_nil) fun ho ha => pe_idxT ho ha) (da_cons de_int (da_cons (de_tup da_nil) da_nil)))) da_nil))))))
    (dss_cons (xs sc__law_odd_ones.nd 6 (de_op (op_addBI.or op_addA) (opd_BI opd_add) (xv 6) (de_lst (da_cons (de_tup (da_cons (xv 2) (da_cons (xv 3) (da_cons (de_op (op_addBI.or op_addA) (opd_BI opd_add) (de_op op_mulV opd_mulV (de_tup (da_cons (xv 5) da_nil)) (de_blt call_len_seq cal_len rfl B.len PySem.boot_len (da_cons (xv 4) da_nil) (by decide) rfl rfl rfl)) (de_tup (da_cons de_non da_nil))) da_nil)))) (da_cons (de_tup (da_cons (de_bty call_strA cal_str rfl B.str (by decide +kernel) (da_cons (xv 2) da_nil) (by decide) rfl rfl rfl) (da_cons (xv 3) (da_cons (xv 4) da_nil)))) da_nil)))))
    (dss_cons (ds_if (dt_cmp (op_eqA hu) opd_eqA (de_blt call_len_seq cal_len rfl B.len PySem.boot_len (da_cons (xv 4) da_nil) (by decide) rfl rfl rfl) de_int (nomark _)) (dss_cons (xs sc__law_odd_ones.nd 7 (de_tup (da_cons (de_blt call_len_seq cal_len rfl B.len PySem.boot_len (da_cons (de_fg (xv 0)) da_nil) (by decide) rfl rfl rfl) da_nil)))
    (dss_cons (xs sc__law_odd_ones.nd 6 (de_op (op_addBI.or op_addA) (opd_BI opd_add) (xv 6) (de_lst (da_cons (de_tup (da_cons (xv 2) (da_cons (xv 3) (da_cons (de_tup da_nil) da_nil)))) (da_cons (de_tup (da_cons (xv 2) (da_cons (xv 3) (da_cons (de_tup (da_cons (de_tup da_nil) da_nil)) da_nil)))) (da_cons (de_tup (da_cons (xv 2) (da_cons (xv 3) (da_cons (de_tup (da_cons (de_tup (da_cons (xv 7) da_nil)) da_nil)) da_nil)))) da_nil))))))
    (dss_cons (xs sc__law_odd_ones.nd 6 (de_op (op_addBI.or op_addA) (opd_BI opd_add) (xv 6) (de_lst (da_cons (de_tup (da_cons (xv 2) (da_cons (xv 3) (da_cons (de_tup (da_cons (de_bty call_list_of cal_list rfl B.list (by decide +kernel) (da_cons (xv 5) da_nil) (by decide) rfl rfl rfl) da_nil)) da_nil)))) (da_cons (de_tup (da_cons (xv 2) (da_cons (xv 3) (da_cons (de_tup (da_cons (de_tup (da_cons (de_tup (da_cons (xv 2) (da_cons de_int (da_cons de_int da_nil)))) da_nil)) da_nil)) da_nil)))) da_nil)))))
    dss_nil))) dss_nil)
    (dss_cons (ds_ret (de_op (op_addBI.or op_addA) (opd_BI opd_add) (xv 6) (de_lst (da_cons (de_tup (da_cons (de_bty call_bool1 cal_bool rfl B.bool (by decide +kernel) (da_cons (xv 2) da_nil) (by decide) rfl rfl rfl) (da_cons (xv 3) (da_cons (xv 4) da_nil)))) (da_cons (de_tup (da_cons (xv 2) (da_cons (de_cmp (op_eqA hu) opd_eqA (xv 3) de_int (nomark _)) (da_cons (xv 4) da_nil)))) da_nil)))))
    dss_nil)))))))))
abbrev s_law : Stmt := topS 28
theorem sc_law : FnScope ["_law_script", "_law_bad", "_law_k", "_law_pen_here", "_law_turn", "_law_arities_here", "_law_context_here", "_law_told", "_law_at", "_law_leg"] ["_law_script"] (defScope s_law) := ⟨rfl, rfl, rfl, by decide +kernel, rfl, by decide +kernel, by decide +kernel⟩
noncomputable def b_law : MS :=
    (sSeq (sFor (mIter (mLst [(ret .non), (mTup []), (mLst [(ret (.int 0))]), (mTup [(ret (.int 0)), (ret (.int 3))]), (mTup [(mNeg (ret (.int 1)))]), (mTup [(ret (.bl true))]), (mTup [(ret (.int 0)), (ret .non)]), (mOp fMulA (mTup [(ret (.int 0))]) (ret (.int 7))), (ret (.int 2)), (ret (.str (Str.ofString "0"))), (mTup [(mTup [(ret (.int 0))])])])) (setN 1) (sSeq (sIf (mNot (mTru (mCall 1 f__law_refused (mArgs [(mVar 1)])))) (sSeq (sRet (ret (.bl false)))
    sNx) sNx)
    sNx))
    (sSeq (sFor (mRng1 (mBlt fMax2 (mArgs [(ret (.int 1)), (mBlt fMin2 (mArgs [(mBlt fLen (mArgs [(mVar 0)])), (ret (.int 3))]))]))) (setN 2) (sSeq (sAsg (mCall 1 f__law_pen (mArgs [(mCall 2 f__law_cell_at (mArgs [(mVar 0), (mVar 2)]))])) (setN 3))
    (sSeq (sFor (mRng1 (ret (.int 4))) (setN 4) (sSeq (sAsg (mIf (mB (mOp fGt (mVar 4) (ret (.int 0)))) (mCall 1 f__law_arities (mArgs [(mVar 3)])) (mTupN [(ret (.int 2)), (ret (.int 0)), (ret (.int 1))])) (setN 5))
    (sSeq (sAsg (mCall 3 f__law_context (mArgs [(mVar 3), (mFg (mVar 5)), (ret (.int 4))])) (setN 6))
    (sSeq (sAsg (mLst [(mCall 2 f_is_context (mArgs [(mFg (mVar 5)), (mVar 6)])), (mCall 2 f_is_context (mArgs [(mFg (mVar 5)), (mSl (mVar 6) none (some (ret (.int 1))))])), (mCall 2 f_is_context (mArgs [(mFg (mVar 5)), (mTup [])]))]) (setN 7))
    (sSeq (sAsg (mOp fAddB (mVar 7) (mLst [(mCall 2 f_is_context (mArgs [(mFg (mVar 5)), (mBlt fList (mArgs [(mVar 6)]))])), (mCall 2 f_is_context (mArgs [(mFg (mVar 5)), (ret .non)])), (mCall 2 f_is_context (mArgs [(mFg (mVar 5)), (ret (.str (Str.ofString "()")))]))])) (setN 7))
    (sSeq (sIf (mB (mOp fNeA (mBlt fReprA (mArgs [(mVar 7)])) (mBlt fReprA (mArgs [(mLst [(ret (.bl true)), (ret (.bl true)), (ret (.bl true)), (ret (.bl false)), (ret (.bl false)), (ret (.bl false))])])))) (sSeq (sRet (ret (.bl false)))
    sNx) sNx)
    (sSeq (sFor (mEnum (mVar 6)) (setTup 2 [(setN 8), (setN 9)]) (sSeq (sFor (mIter (mCall 2 f__law_odd_ones (mArgs [(mVar 5), (mVar 9)]))) (setN 1) (sSeq (sIf (mB (mOp fNotB (mCall 2 f_is_context (mArgs [(mFg (mVar 5)), (mOp fAddB (mOp fAddB (mSl (mVar 6) none (some (mVar 8))) (mTup [(mVar 1)])) (mSl (mVar 6) (some (mOp fAddB (mVar 8) (ret (.int 1)))) none))])) (ret (.bl false)))) (sSeq (sRet (ret (.bl false)))
    sNx) sNx)
    sNx))
    sNx))
    sNx)))))))
    sNx)))
    (sSeq (sRet (ret (.bl true)))
    sNx)))
noncomputable def f_law : FD := runF 10 b_law
theorem g_law (B : Bt mg) (d__law_pen : Df P w K mg base "_law_pen" 1 1 f__law_pen) (d__law_refused : Df P w K mg base "_law_refused" 8 1 f__law_refused) (d__law_cell_at : Df P w K mg base "_law_cell_at" 1 2 f__law_cell_at) (d__law_context : Df P w K mg base "_law_context" 4 3 f__law_context) (d__law_arities : Df P w K mg base "_law_arities" 3 1 f__law_arities) (d_is_context : Df P w K mg base "is_context" 7 2 f_is_context) (d__law_odd_ones : Df P w K mg base "_law_odd_ones" 1 2 f__law_odd_ones) {f : Addr} {fd : FuncData} (F : Fun K "law" "law" s_law f fd) : FnG P w K mg base (L2.CX P w) 9 f fd ["_law_script"] (spF K 1 f_law) := by
  refine fng_df F sc_law fun cd A ou s H E hg hr => ?_
  have hu := hu64 hr
  have hu2 := hu66 hr
  exact (dss_cons (ds_for ownC rfl (di_seq (de_lst (da_cons de_non (da_cons (de_tup da_nil) (da_cons (de_lst (da_cons de_int da_nil)) (da_cons (de_tup (da_cons de_int (da_cons de_int da_nil))) (da_cons (de_tup (da_cons (de_neg de_int) da_nil)) (da_cons (de_tup (da_cons de_bl da_nil)) (da_cons (de_tup (da_cons de_int (da_cons de_non da_nil))) (da_cons (de_op op_mulT opd_mulT (de_tup (da_cons de_int da_nil)) de_int) (da_cons de_int (da_cons de_str (da_cons (de_tup (da_cons (de_tup (da_cons de_int da_nil)) da_nil)) da_nil))))))))))))) (xg sc_law.nd 1) (dss_cons (ds_if (dt_not (dt_tru (de_call d__law_refused hg (hr.mono (by decide)) passC rfl (da_cons (xv 1) da_nil) rfl rfl rfl) fun _ => rfl)) (dss_cons (ds_ret de_bl)
    dss_nil) dss_nil)
    dss_nil) (by intro _; rfl))
    (dss_cons (ds_for ownC rfl (di_rng1 rfl B.range (da_cons (de_blt (call_max2 rfl) cal_max2 rfl B.max PyProof.Rows.boot_max (da_cons de_int (da_cons (de_blt (call_min2 rfl) cal_min2 rfl B.min PyProof.Rows.boot_min (da_cons (de_blt call_len_seq cal_len rfl B.len PySem.boot_len (da_cons (xv 0) da_nil) (by decide) rfl rfl rfl) (da_cons de_int da_nil)) (by decide) rfl rfl rfl) da_nil)) (by decide) rfl rfl rfl) da_nil) rfl) (xg sc_law.nd 2) (dss_cons (xs sc_law.nd 3 (de_call d__law_pen hg (hr.mono (by decide)) passC rfl (da_cons (de_call d__law_cell_at hg (hr.mono (by decide)) passC rfl (da_cons (xv 0) (da_cons (xv 2) da_nil)) rfl rfl rfl) da_nil) rfl rfl rfl))
    (dss_cons (ds_for ownC rfl (di_rng1 rfl B.range (da_cons de_int da_nil) rfl) (xg sc_law.nd 4) (dss_cons (xs sc_law.nd 5 (de_if (dt_cmp (op_gt) opd_gt (xv 4) de_int (nomark _)) (de_call d__law_arities hg (hr.mono (by decide)) passC rfl (da_cons (xv 3) da_nil) rfl rfl rfl) (de_tupN (da_cons de_int (da_cons de_int (da_cons de_int da_nil))))))
    (dss_cons (xs sc_law.nd 6 (de_call d__law_context hg (hr.mono (by decide)) passC rfl (da_cons (xv 3) (da_cons (de_fg (xv 5)) (da_cons de_int da_nil))) rfl rfl rfl))
    (dss_cons (xs sc_law.nd 7 (de_lst (da_cons (de_call d_is_context hg (hr.mono (by decide)) passC rfl (da_cons (de_fg (xv 5)) (da_cons (xv 6) da_nil)) rfl rfl rfl) (da_cons (de_call d_is_context hg (hr.mono (by decide)) passC rfl (da_cons (de_fg (xv 5)) (da_cons (de_sl (xv 6) do_none (do_some de_int)) da_nil)) rfl rfl rfl) (da_cons (de_call d_is_context hg (hr.mono (by decide)) passC rfl (da_cons (de_fg (xv 5)) (da_cons (de_tup da_nil) da_nil)) rfl rfl rfl) da_nil)))))
    (dss_cons (xs sc_law.nd 7 (de_op (op_addBI.or op_addA) (opd_BI opd_add) (xv 7) (de_lst (da_cons (de_call d_is_context hg (hr.mono (by decide)) passC rfl (da_cons (de_fg (xv 5)) (da_cons (de_bty call_list_of cal_list rfl B.list (by decide +kernel) (da_cons (xv 6) da_nil) (by decide) rfl rfl rfl) da_nil)) rfl rfl rfl) (da_cons (de_call d_is_context hg (hr.mono (by decide)) passC rfl (da_cons (de_fg (xv 5)) (da_cons de_non da_nil)) rfl rfl rfl) (da_cons (de_call d_is_context hg (hr.mono (by decide)) passC rfl (da_cons (de_fg (xv 5)) (da_cons de_str da_nil)) rfl rfl rfl) da_nil))))))
    (dss_cons (ds_if (dt_cmp (op_neA hu) opd_neA (de_blt (call_reprA hg hu2) cal_reprA rfl B.repr PyProof.Rows.boot_repr (da_cons (xv 7) da_nil) (by decide) rfl rfl rfl) (de_blt (call_reprA hg hu2) cal_reprA rfl B.repr PyProof.Rows.boot_repr (da_cons (de_lst (da_cons de_bl (da_cons de_bl (da_cons de_bl (da_cons de_bl (da_cons de_bl (da_cons de_bl da_nil))))))) da_nil) (by decide) rfl rfl rfl) (nomark _)) (dss_cons (ds_ret de_bl)
    dss_nil) dss_nil)
    (dss_cons (ds_for ownC rfl (di_enumT rfl B.enumerate (da_cons (xv 6) da_nil) rfl) (dg_tup rfl (dgs_cons (xg sc_law.nd 8) (dgs_cons (xg sc_law.nd 9) dgs_nil)) rfl rfl) (dss_cons (ds_for ownC rfl (di_seq (de_call d__law_odd_ones hg (hr.mono (by decide)) passC rfl (da_cons (xv 5) (da_cons (xv 9) da_nil)) rfl rfl rfl)) (xg sc_law.nd 1) (dss_cons (ds_if (dt_cmp (op_notBl) opd_notB (de_call d_is_context hg (hr.mono (by decide)) passC rfl (da_cons (de_fg (xv 5)) (da_cons (de_op (op_addBI.or op_addA) (opd_BI opd_add) (de_op (op_addBI.or op_addA) (opd_BI opd_add) (de_sl (xv 6) do_none (do_some (xv 8))) (de_tup (da_cons (xv 1) da_nil))) (de_sl (xv 6) (do_some (de_op (op_addBI.or op_addA) (opd_BI opd_add) (xv 8) de_int)) do_none)) da_nil)) rfl rfl rfl) de_bl (nomark _)) (dss_cons (ds_ret de_bl)
    dss_nil) dss_nil)
    dss_nil) (by intro _; rfl))
    dss_nil) (by intro _; rfl))
    dss_nil)))))) (by intro _; rfl))
    dss_nil)) (by intro _; rfl))
    (dss_cons (ds_ret de_bl)
    dss_nil)))
end
end M2
set_option Elab.async false
set_option linter.all false
set_option maxRecDepth 100000
set_option maxHeartbeats 2000000
namespace M2
open PySem PySem.Spec PyProof.Rows L2
open Classical
variable [Tb]
theorem r_cell (ns : List Int) (k : Nat) (st : Sto) : ∃ i, f__law_cell_at [.scr ns, .int (k : Int)] st = some (.ok (.int i), st) := by
  by_cases h : k < ns.length
  · refine ⟨ns[k], ?_⟩
    have e : atI ns (k : Int) = some ns[k] := atI_ok (by omega) (by simp [List.getElem?_eq_getElem h])
    simp [f__law_cell_at, b__law_cell_at, envOf, h, e]
  · exact ⟨0, by simp [f__law_cell_at, b__law_cell_at, envOf, h]⟩
theorem r_pen (i : Int) (st : Sto) : ∃ st', f__law_pen [.int i] st = some (.ok (.mu st.length), st') ∧ Pn 0 st' st.length ∧ ∀ p, Fp p st st' := by
  have e1 : fPow (.int 10) (.int 18) st = some (.int 1000000000000000000, st) := by simp [fPow, iop]
  have e2 : fMod (.int i) (.int 1000000007) st = some (.int (i % 1000000007), st) := u_mod (by decide)
  refine ⟨st ++ [[.int (if i - 1000000000000000000 > 0 then i - 1000000000000000000 else 0), .int (i % 1000000007), .int 0]], ?_, ?_, fun p => Fp.app _⟩
  · simp [f__law_pen, b__law_pen, envOf, e1, e2]
  · refine ⟨if i - 1000000000000000000 > 0 then i - 1000000000000000000 else 0, i % 1000000007, 0, by simp, ?_, ?_, ?_, by omega, by omega⟩
    · split <;> omega
    · have := Int.emod_nonneg i (show (1000000007 : Int) ≠ 0 by decide); omega
    · have := Int.emod_lt_of_pos i (show (0 : Int) < 1000000007 by decide); omega
/-- a draw: a number from 0 to many - 1 -/
theorem r_draw {N p : Nat} {st : Sto} {many : Int} (hp : Pn N st p) (hN : N ≤ 1000000000) (h0 : 0 < many) (h9 : many.natAbs.log2 < 9000) :
    ∃ r st', f__law_draw [.mu p, .int many] st = some (.ok (.int r), st') ∧ 0 ≤ r ∧ r < many ∧ Pn (N + 1) st' p ∧ Fp p st st' := by
  obtain ⟨a, b, c, e, ha, hb, hb2, hc, hcN⟩ := hp
  have hl : p < st.length := (List.getElem?_eq_some_iff.mp e).1
  have ix0 : ∀ (x y z : D), atI [x, y, z] 0 = some x := fun x y z => rfl
  have ix1 : ∀ (x y z : D), atI [x, y, z] 1 = some y := fun x y z => rfl
  have ix2 : ∀ (x y z : D), atI [x, y, z] 2 = some z := fun x y z => rfl
  have n0 : ixN 3 0 = some 0 := rfl
  have n1 : ixN 3 1 = some 1 := rfl
  have n2 : ixN 3 2 = some 2 := rfl
  have fr : ∀ x, Fp p st (st.set p x) := fun x => ⟨by simp, fun l h1 h2 => by rw [List.getElem?_set_ne (Ne.symm h2)]⟩
  by_cases h : 0 < a
  · refine ⟨a % many, st.set p [.int (a / many), .int b, .int c], ?_, Int.emod_nonneg _ (by omega), Int.emod_lt_of_pos _ h0, ⟨_, _, _, List.getElem?_set_self hl, Int.ediv_nonneg ha (by omega), hb, hb2, hc, by omega⟩, fr _⟩
    simp only [f__law_draw, b__law_draw, u_runF, envOf]
    simp [e, ix0, h, u_mod h0, u_div h0 h9, n0]
  · obtain ⟨k, ek⟩ : ∃ x : Int, x = c + 1 := ⟨_, rfl⟩
    obtain ⟨s1, es1⟩ : ∃ x : Int, x = ((b + 17 * k) * (69621 + 2 * k)) % 2147483647 := ⟨_, rfl⟩
    have hs1 : 0 ≤ s1 := by rw [es1]; exact Int.emod_nonneg _ (by decide)
    have hs1' : s1 < 2147483647 := by rw [es1]; exact Int.emod_lt_of_pos _ (by decide)
    obtain ⟨s2, es2⟩ : ∃ x : Int, x = (s1 * s1 + 40503 * k + 5) % 2147483629 := ⟨_, rfl⟩
    have hs2 : 0 ≤ s2 := by rw [es2]; exact Int.emod_nonneg _ (by decide)
    have hs2' : s2 < 2147483629 := by rw [es2]; exact Int.emod_lt_of_pos _ (by decide)
    obtain ⟨s3, es3⟩ : ∃ x : Int, x = (s2 * 48271) % 2147483647 := ⟨_, rfl⟩
    have small : ∀ x : Int, 0 ≤ x → x < 1000000000000 → x.natAbs < 2 ^ 1000 := fun x h1 h2 => Nat.lt_of_lt_of_le (show x.natAbs < 1000000000000 by omega) (by decide)
    have m1 : ∀ s : Sto, fMul (.int 17) (.int k) s = some (.int (17 * k), s) := fun s => u_mul (mul_ok (by decide) (small k (by omega) (by omega)))
    have m2 : ∀ s : Sto, fMul (.int 2) (.int k) s = some (.int (2 * k), s) := fun s => u_mul (mul_ok (by decide) (small k (by omega) (by omega)))
    have m3 : ∀ s : Sto, fMul (.int (b + 17 * k)) (.int (69621 + 2 * k)) s = some (.int ((b + 17 * k) * (69621 + 2 * k)), s) := fun s => u_mul (mul_ok (small _ (by omega) (by omega)) (small _ (by omega) (by omega)))
    have m4 : ∀ s : Sto, fMul (.int s1) (.int s1) s = some (.int (s1 * s1), s) := fun s => u_mul (mul_ok (small s1 hs1 (by omega)) (small s1 hs1 (by omega)))
    have m5 : ∀ s : Sto, fMul (.int 40503) (.int k) s = some (.int (40503 * k), s) := fun s => u_mul (mul_ok (by decide) (small k (by omega) (by omega)))
    have m6 : ∀ s : Sto, fMul (.int s2) (.int 48271) s = some (.int (s2 * 48271), s) := fun s => u_mul (mul_ok (small s2 hs2 (by omega)) (by decide))
    have d1 : ∀ s : Sto, fMod (.int ((b + 17 * k) * (69621 + 2 * k))) (.int 2147483647) s = some (.int s1, s) := fun s => by rw [es1]; exact u_mod (by decide)
    have d2 : ∀ s : Sto, fMod (.int (s1 * s1 + 40503 * k + 5)) (.int 2147483629) s = some (.int s2, s) := fun s => by rw [es2]; exact u_mod (by decide)
    have d3 : ∀ s : Sto, fMod (.int (s2 * 48271)) (.int 2147483647) s = some (.int s3, s) := fun s => by rw [es3]; exact u_mod (by decide)
    have d4 : ∀ s : Sto, fDiv (.int s3) (.int 32) s = some (.int (s3 / 32), s) := fun s => u_div (by decide) (by decide)
    have d5 : ∀ s : Sto, fMod (.int (s3 / 32)) (.int many) s = some (.int (s3 / 32 % many), s) := fun s => u_mod h0
    have ad : ∀ s : Sto, fAddB (.int c) (.int 1) s = some (.int k, s) := fun s => by rw [ek]; simp
    refine ⟨s3 / 32 % many, st.set p [.int a, .int b, .int k], ?_, Int.emod_nonneg _ (by omega), Int.emod_lt_of_pos _ h0, ⟨_, _, _, List.getElem?_set_self hl, ha, hb, by omega, by omega, by omega⟩, fr _⟩
    simp only [f__law_draw, b__law_draw, u_runF, envOf]
    have gs : ∀ x, (st.set p x)[p]? = some x := fun x => List.getElem?_set_self hl
    simp [e, ix0, ix1, ix2, h, n0, n1, n2, gs, ad, m1, m2, m3, d1, m4, m5, d2, m6, d3, d4, d5]
/-- one of a list that is not the pen -/
theorem r_pick {N p q : Nat} {st : Sto} {ds : List D} (hp : Pn N st p) (hN : N ≤ 1000000000) (hq : q ≠ p) (e : st[q]? = some ds) (h0 : 0 < ds.length) (h9 : ds.length ≤ 1000) :
    ∃ d st', f__law_pick [.mu p, .mu q] st = some (.ok d, st') ∧ d ∈ ds ∧ Pn (N + 1) st' p ∧ Fp p st st' := by
  obtain ⟨r, st', h1, h2, h3, h4, h5⟩ := r_draw (many := (ds.length : Int)) hp hN (by omega) (Nat.lt_of_lt_of_le (log_lt (by decide : 0 < 10) (show (ds.length : Int).natAbs < 2 ^ 10 by omega)) (by decide))
  have hl : q < st.length := (List.getElem?_eq_some_iff.mp e).1
  have hr : r.toNat < ds.length := by omega
  have e2 : st'[q]? = some ds := by rw [h5.2 q hl hq]; exact e
  refine ⟨ds[r.toNat], st', ?_, List.getElem_mem hr, h4, h5⟩
  have hat : atI ds r = some ds[r.toNat] := atI_ok h2 (List.getElem?_eq_getElem hr)
  simp [f__law_pick, b__law_pick, envOf, e, h1, e2, hat]
theorem r_integer {d : D} (h : Ok d) (st : Sto) : f_is_integer [d] st = some (.ok (.bl (intB d && !blB d)), st) := by
  have e1 := u_int (st := st) h
  have e2 := u_bool (st := st) h
  cases h <;> simp [f_is_integer, b_is_integer, envOf, e1, e2, intB, blB]
end M2
set_option Elab.async false
set_option linter.all false
set_option maxRecDepth 100000
set_option maxHeartbeats 4000000
namespace M2
open PySem PySem.Spec PyProof.Rows L2
open Classical
variable [Tb]
theorem r_between {d : D} (h : Ok d) (lo hi : Int) (st : Sto) : f_is_between [d, .int lo, .int hi] st = some (.ok (.bl (whB lo hi d)), st) := by
  have e1 := r_integer (st := st) h
  cases h <;> simp [f_is_between, b_is_between, envOf, e1, intB, blB, whB]
  rename_i i
  by_cases c : lo ≤ i <;> simp [c]
theorem r_operator {d : D} (h : Ok d) (as : List D) (st : Sto) : f_is_operator [.tup as, d] st = some (.ok (.bl (whB 0 ((as.length : Int) - 1) d)), st) := by
  have e1 := r_between h 0 ((as.length : Int) - 1) st
  simp [f_is_operator, b_is_operator, envOf, e1]
/-! ### arities -/
def arB : D → Bool
  | .tup ds => (decide (1 ≤ ds.length) && decide (ds.length ≤ 6)) && ds.all (whB 0 2)
  | _ => false
theorem arB_tup (ds : List D) : arB (.tup ds) = ((decide (1 ≤ ds.length) && decide (ds.length ≤ 6)) && ds.all (whB 0 2)) := rfl
theorem r_ar {d : D} (h : Ok d) (st : Sto) : ∃ j, f_is_arities [d] st = some (.ok (.bl (arB d)), st ++ j) := by
  have e1 := u_tup (st := st) h
  cases h with
  | @tup ds hx hl =>
    by_cases c : 1 ≤ ds.length ∧ ds.length ≤ 6
    · obtain ⟨j, h1⟩ := lc_bools (ds := ds) (B := whB 0 2) (mi := mIter (mVar 0)) (vs := [1]) (set := setN 1) (elt := mCall 3 f_is_between (mArgs [(mVar 1), (ret (.int 0)), (ret (.int 2))])) (en := [some (.tup ds), none]) (st := st)
        (by simp [iterD]) (by omega) (fun d hd s => ⟨[some (.tup ds), some d], [], by simp [wipeE], by simp [r_between (hx d hd)]⟩)
      have h2 := r_all (bs := ds.map (whB 0 2)) (l := st.length) (st := st ++ [(ds.map (whB 0 2)).map D.bl] ++ j) (by rw [List.append_assoc]; exact at0)
      refine ⟨[(ds.map (whB 0 2)).map D.bl] ++ j, ?_⟩
      have c1 : (1 : Int) ≤ ds.length := by omega
      have c2 : (ds.length : Int) ≤ 6 := by omega
      have ev : arB (.tup ds) = (ds.map (whB 0 2)).all fun b => b := by
        rw [arB_tup]
        simp [c.1, c.2, List.all_map, Function.comp_def]
      rw [ev, ← List.append_assoc]
      refine run_rt (e2 := [some (.tup ds), none]) ?_
      rw [b_is_arities, show envOf 2 [D.tup ds] = [some (.tup ds), none] from rfl, s_ret]
      have d1 : decide ((1 : Int) ≤ ds.length) = true := decide_eq_true c1
      have d2 : decide ((ds.length : Int) ≤ 6) = true := decide_eq_true c2
      simp only [u_mAndV, u_bnd, u_mBlt, u_mArgs1, u_mArgs0, u_mVar, List.getElem?_cons_zero, Option.join_some, Option.map_some, u_ret, u_stm, e1, tupB, u_lft, u_boolD, if_true, u_mChain, u_lenT, u_le, d1, d2, h1, h2]
    · refine ⟨[], ?_⟩
      have ev : arB (.tup ds) = false := by
        rw [arB_tup]
        by_cases c1 : 1 ≤ ds.length
        · have c2 : ¬ ds.length ≤ 6 := fun z => c ⟨c1, z⟩
          simp [c2]
        · simp [c1]
      rw [ev]
      refine run_rt (e2 := [some (.tup ds), none]) ?_
      rw [b_is_arities, show envOf 2 [D.tup ds] = [some (.tup ds), none] from rfl, s_ret (st' := st ++ [])]
      by_cases c1 : (1 : Int) ≤ ds.length
      · have c2 : ¬ (ds.length : Int) ≤ 6 := by omega
        simp [e1, tupB, c1, c2]
      · simp [e1, tupB, c1]
  | _ => exact ⟨[], by simp [f_is_arities, b_is_arities, envOf, e1, tupB, arB]⟩
end M2
set_option Elab.async false
set_option linter.all false
set_option maxRecDepth 100000
set_option maxHeartbeats 4000000
namespace M2
open PySem PySem.Spec PyProof.Rows L2
open Classical
variable [Tb]
/-- a node as data -/
abbrev Nd := Int × List Int
def nD (n : Nd) : D := .tup (.int n.1 :: n.2.map D.int)
def tD (ns : List Nd) : D := .tup (ns.map nD)
structure Vn (as : List Int) (i : Nat) (n : Nd) : Prop where
  lo : 0 ≤ n.1
  hi : n.1 < as.length
  ar : as[n.1.toNat]? = some (n.2.length : Int)
  ps : ∀ p ∈ n.2, 0 ≤ p ∧ p < (i : Int)
structure Vt (as : List Int) (ns : List Nd) : Prop where
  ne : 0 < ns.length
  few : ns.length ≤ 1000
  at' : ∀ i n, ns[i]? = some n → Vn as i n
theorem ps_few {as : List Int} {i : Nat} {n : Nd} (ha : Ar as) (h : Vn as i n) : n.2.length ≤ 2 := by
  have := ha.2.2 _ (List.mem_of_getElem? h.ar)
  omega
theorem datL_ints (st : Sto) (n : Nat) : ∀ ns : List Int, datL st (n + 1) (ns.map D.int) = some (ns.map PyData.int)
  | [] => by simp [datL]
  | x :: xs => by simp [datL, dat, datL_ints st n xs]
theorem dat_mu {st : Sto} {n l : Nat} {ds : List D} (h : st[l]? = some ds) : dat st (n + 1) (.mu l) = (datL st n ds).map PyData.list := by simp [dat, h]
theorem can_ints : ∀ ns : List Int, PyData.canLayAll0 (ns.map PyData.int) = true
  | [] => rfl
  | x :: xs => by
    show (PyData.canLay0 (.int x) && PyData.canLayAll0 (xs.map PyData.int)) = true
    rw [can_ints xs]; rfl
theorem eq_nil {l k : Nat} {st : Sto} {ns : List Int} (h1 : st[l]? = some (ns.map D.int)) (h2 : st[k]? = some []) (h : ns ≠ []) : fEqA (.mu l) (.mu k) st = some (.bl false, st) := by
  have e1 : dat st 64 (.mu l) = some (.list (ns.map PyData.int)) := by rw [dat_mu h1, datL_ints st 62]; rfl
  have e2 : dat st 64 (.mu k) = some (.list []) := by rw [dat_mu h2]; simp [datL]
  have e3 : PyData.eqv (.list (ns.map PyData.int)) (.list []) = false := by
    cases ns with
    | nil => exact absurd rfl h
    | cons x xs => rfl
  show fEq (.mu l) (.mu k) st = _
  unfold fEq eqD
  rw [e1, e2]
  simp only [PyData.canLay0, can_ints, PyData.canLayAll0]
  simp [e3]
/-- the leaves' numbers -/
theorem leaves {en : En} {st : Sto} {as : List Int} {A : D} (hen : wipeE en [4, 5] = [some A, some (.tup (as.map D.int)), en[2]?.join, none, none, none, none, none, none, none, none]) (h1 : en[1]? = some (some (.tup (as.map D.int)))) (hl : as.length ≤ 1000) (h0 : 0 ∈ as) :
    ∃ os : List Int, mLc (mEnum (mVar 1)) [4, 5] (setTup 2 [(setN 4), (setN 5)]) (mB (mOp fEqA (mVar 5) (ret (.int 0)))) (mVar 4) en st = some (.ok (.mu st.length), st ++ [os.map D.int]) ∧ os ≠ [] ∧ os.length ≤ 1000 ∧
      ∀ o ∈ os, 0 ≤ o ∧ o < (as.length : Int) ∧ as[o.toNat]? = some 0 := by
  let g : D → Option D := fun d => match d with
    | .tup [.int i, .int a] => if decide (a = 0) = true then some (.int i) else none
    | _ => none
  have items : ∀ (k : Nat) (d : D), (numbered 0 (as.map D.int))[k]? = some d ↔ ∃ a, as[k]? = some a ∧ d = .tup [.int (k : Int), .int a] := fun k d => by
    rw [numbered_get, List.getElem?_map]
    cases as[k]? with
    | none => simp
    | some a => simp [eq_comm]
  have hf := lc_filter (mi := mEnum (mVar 1)) (vs := [4, 5]) (set := setTup 2 [(setN 4), (setN 5)]) (test := mB (mOp fEqA (mVar 5) (ret (.int 0)))) (elt := mVar 4) (en := en) (st := st) (st1 := st) (it := ⟨numbered 0 (as.map D.int), none, []⟩) g
    (by simp [mEnum, h1]) rfl (by show _ ≤ _; rw [numbered_len]; simpa using hl) (fun d hd => by
      obtain ⟨k, hk⟩ := List.mem_iff_getElem?.mp hd
      obtain ⟨a, ha, rfl⟩ := (items k d).mp hk
      refine ⟨[some A, some (.tup (as.map D.int)), en[2]?.join, none, some (.int (k : Int)), some (.int a), none, none, none, none, none], decide (a = 0), .int (k : Int), ?_, fun s => by simp, fun s => by simp, rfl⟩
      rw [hen]; simp [setTup, setT])
  have hall : ∀ v ∈ (numbered 0 (as.map D.int)).filterMap g, IntsP (fun o => 0 ≤ o ∧ o < (as.length : Int) ∧ as[o.toNat]? = some 0) v := fun v hv => by
    obtain ⟨d, hd, hg⟩ := List.mem_filterMap.mp hv
    obtain ⟨k, hk⟩ := List.mem_iff_getElem?.mp hd
    obtain ⟨a, ha, rfl⟩ := (items k d).mp hk
    have hkl := (List.getElem?_eq_some_iff.mp ha).1
    by_cases h : a = 0
    · subst h
      replace hg : (if decide ((0 : Int) = 0) = true then some (D.int (k : Int)) else none) = some v := hg
      rw [if_pos (by simp)] at hg
      cases hg
      exact ⟨k, rfl, by omega, by omega, by simpa using ha⟩
    · replace hg : (if decide (a = 0) = true then some (D.int (k : Int)) else none) = some v := hg
      rw [if_neg (by simpa using h)] at hg
      cases hg
  obtain ⟨os, eos, hos⟩ := ints_of hall
  have hlen : os.length ≤ 1000 := by
    have : (os.map D.int).length ≤ 1000 := by
      rw [← eos]
      exact Nat.le_trans (List.length_filterMap_le _ _) (by rw [numbered_len]; simpa using hl)
    simpa using this
  refine ⟨os, by rw [hf]; show some (_, st ++ [(numbered 0 (as.map D.int)).filterMap g]) = _; rw [eos], fun e => ?_, hlen, hos⟩
  obtain ⟨k, hk⟩ := List.mem_iff_getElem?.mp h0
  have hm : D.int (k : Int) ∈ (numbered 0 (as.map D.int)).filterMap g :=
    List.mem_filterMap.mpr ⟨.tup [.int (k : Int), .int 0], List.mem_iff_getElem?.mpr ⟨k, (items k _).mpr ⟨0, hk, rfl⟩⟩, rfl⟩
  rw [eos, e] at hm
  cases hm
/-- nodes so far, each good at its place -/
def Good (as : List Int) (ns : List Nd) : Prop := ∀ i n, ns[i]? = some n → Vn as i n
theorem Good.snoc {as : List Int} {ns : List Nd} {n : Nd} (h : Good as ns) (hn : Vn as ns.length n) : Good as (ns ++ [n]) := fun i m e => by
  by_cases hi : i < ns.length
  · rw [List.getElem?_append_left hi] at e
    exact h i m e
  · have := (List.getElem?_eq_some_iff.mp e).1
    simp at this
    have : i = ns.length := by omega
    subst this
    simp at e
    subst e
    exact hn
theorem cutD_to (xs : List D) {a : Int} (h : 0 ≤ a) : cutD xs none (some a) = xs.take a.toNat := by
  unfold cutD
  obtain ⟨k, rfl⟩ : ∃ k : Nat, a = (k : Int) := ⟨a.toNat, by omega⟩
  rw [HT.sIx_none, show HT.sIx xs.length xs.length (some (k : Int)) = min k xs.length from HT.sIx_nat xs.length xs.length k]
  simp
theorem Fp.at {p : Nat} {a b : Sto} (h : Fp p a b) {l : Nat} {x : List D} (e : a[l]? = some x) (hp : l ≠ p) : b[l]? = some x := by
  rw [h.2 l (List.getElem?_eq_some_iff.mp e).1 hp]; exact e
theorem log10 {i : Int} (h0 : 0 ≤ i) (h : i ≤ 1000) : i.natAbs.log2 < 9000 := Nat.lt_of_lt_of_le (log_lt (by decide : 0 < 10) (show i.natAbs < 2 ^ 10 by omega)) (by decide)
/-- two parts, each below the number of nodes so far -/
theorem r_parts {N p f : Nat} {st : Sto} {as : List Int} {x2 x3 x4 : Option D} {near : Int} {ns : List Nd} (hp : Pn N st p) (hN : N ≤ 900000000) (hf : st[f]? = some (ns.map nD)) (hfp : f ≠ p) (h1 : 1 ≤ ns.length) (h2 : ns.length ≤ 500) (n0 : 0 ≤ near) (n1 : near < (ns.length : Int)) (x7 x9 : Option D) :
    ∃ (ps : List Int) (st' : Sto), mLc (mRng1 (ret (.int 2))) [10] (setN 10) (ret true) (mOp fIx (mLst [(mVar 8), (mOp fSubB (mBlt fLen (mArgs [(mVar 6)])) (ret (.int 1))), (mCall 2 f__law_draw (mArgs [(mVar 0), (mBlt fLen (mArgs [(mVar 6)]))]))]) (mCall 2 f__law_draw (mArgs [(mVar 0), (ret (.int 3))])))
      [some (.mu p), some (.tup (as.map D.int)), x2, x3, x4, none, some (.mu f), x7, some (.int near), x9, none] st = some (.ok (.mu st.length), st') ∧ st'[st.length]? = some (ps.map D.int) ∧ ps.length = 2 ∧ (∀ q ∈ ps, 0 ≤ q ∧ q < (ns.length : Int)) ∧ Pn (N + 4) st' p ∧ Fp p st st' := by
  have lp := hp.lt
  have lf := (List.getElem?_eq_some_iff.mp hf).1
  obtain ⟨ws, s2, hlc, ⟨p2, F2⟩, hat, hlen, hR⟩ := lc_gen (mi := mRng1 (ret (.int 2))) (vs := [10]) (set := setN 10)
    (elt := mOp fIx (mLst [(mVar 8), (mOp fSubB (mBlt fLen (mArgs [(mVar 6)])) (ret (.int 1))), (mCall 2 f__law_draw (mArgs [(mVar 0), (mBlt fLen (mArgs [(mVar 6)]))]))]) (mCall 2 f__law_draw (mArgs [(mVar 0), (ret (.int 3))])))
    (en := [some (.mu p), some (.tup (as.map D.int)), x2, x3, x4, none, some (.mu f), x7, some (.int near), x9, none]) (st := st) (st1 := st) (it := ⟨(List.range (2 : Int).toNat).map fun (i : Nat) => D.int (i : Int), none, []⟩)
    (fun i s => Pn (N + 2 * i) s p ∧ Fp p st s) (IntsP fun q => 0 ≤ q ∧ q < (ns.length : Int)) (rng_ok (by simp) (by decide) (by decide)) rfl (by simp) ⟨hp.app _, Fp.app _⟩ (fun i s acc ⟨a1, a2⟩ => ⟨a1.set (by omega) _, a2.set (Nat.le_refl _) _⟩)
    (fun i d s hd ⟨a1, a2⟩ hl => by
      have hi : i < 2 := by
        have := (List.getElem?_eq_some_iff.mp hd).1
        simpa using this
      have sf := a2.at hf hfp
      obtain ⟨r, s3, e1, r0, r1, p3, F3⟩ := r_draw (many := (ns.length : Int)) a1 (by omega) (by omega) (log10 (by omega) (by omega))
      obtain ⟨k, s4, e2, k0, k3, p4, F4⟩ := r_draw (many := 3) (p3.app [[.int near, .int ((ns.length : Int) - 1), .int r]]) (by omega) (by decide) (by decide)
      have q4 : s4[s3.length]? = some [.int near, .int ((ns.length : Int) - 1), .int r] := F4.at (by simp) (by have := p3.lt; omega)
      have F5 : Fp p s s4 := (F3.trans (Fp.app _)).trans F4
      have pick : ∃ v : Int, atI [D.int near, .int ((ns.length : Int) - 1), .int r] k = some (.int v) ∧ 0 ≤ v ∧ v < (ns.length : Int) := by
        have : k = 0 ∨ k = 1 ∨ k = 2 := by omega
        rcases this with rfl | rfl | rfl
        · exact ⟨near, rfl, n0, n1⟩
        · exact ⟨(ns.length : Int) - 1, rfl, by omega, by omega⟩
        · exact ⟨r, rfl, r0, r1⟩
      obtain ⟨v, hv, v0, v1⟩ := pick
      refine ⟨[some (.mu p), some (.tup (as.map D.int)), x2, x3, x4, none, some (.mu f), x7, some (.int near), x9, some d], .int v, s4, by simp [wipeE], ?_, ⟨v, rfl, v0, v1⟩, ⟨p4.mono (by omega), a2.trans F5⟩, F5.2 _ hl (by omega)⟩
      simp [sf, e1, e2, q4, hv])
  obtain ⟨ps, rfl, hps⟩ := ints_of hR
  refine ⟨ps, s2, hlc, hat, by simpa using hlen, hps, p2.mono (by simp), F2⟩
end M2
set_option Elab.async false
set_option linter.all false
set_option maxRecDepth 100000
set_option maxHeartbeats 4000000
namespace M2
open PySem PySem.Spec PyProof.Rows L2
open Classical
variable [Tb]
/-! ### what is a node, what is a tree -/
def lnB (as : List Int) (o : D) (xs : List D) : Bool := match o with
  | .int k => decide ((xs.length : Int) = as.getD k.toNat 0)
  | _ => false
def nodeB (as : List Int) (i : Int) : D → Bool
  | .tup (o :: xs) => whB 0 ((as.length : Int) - 1) o && (lnB as o xs && xs.all (whB 0 (i - 1)))
  | _ => false
def goB (as : List Int) : Int → List D → Bool
  | _, [] => true
  | i, d :: r => nodeB as i d && goB as (i + 1) r
def treeB (as : List Int) : D → Bool
  | .tup (d :: r) => goB as 0 (d :: r)
  | _ => false
theorem nodeB_t (as : List Int) (i : Int) (o : D) (xs : List D) : nodeB as i (.tup (o :: xs)) = (whB 0 ((as.length : Int) - 1) o && (lnB as o xs && xs.all (whB 0 (i - 1)))) := rfl
theorem nodeB_n {as : List Int} {i : Int} {d : D} (h : tupB d = false) : nodeB as i d = false := by
  cases d <;> first | rfl | cases h
theorem treeB_n {as : List Int} {d : D} (h : tupB d = false) : treeB as d = false := by
  cases d <;> first | rfl | cases h
theorem ar_get {as : List Int} {k : Int} (h0 : 0 ≤ k) (h1 : k ≤ (as.length : Int) - 1) : atI (as.map D.int) k = some (.int (as.getD k.toNat 0)) := by
  have hl : k.toNat < as.length := by omega
  exact atI_ok h0 (by rw [List.getElem?_map, List.getD_eq_getElem?_getD, List.getElem?_eq_getElem hl]; rfl)
theorem r_node {as : List Int} {i : Int} {d : D} (h : Ok d) (st : Sto) : ∃ j, f_is_node [.tup (as.map D.int), .int i, d] st = some (.ok (.bl (nodeB as i d)), st ++ j) := by
  have e1 := u_tup (st := st) h
  cases ht : tupB d with
  | false =>
    refine ⟨[], ?_⟩
    rw [ht] at e1
    rw [nodeB_n ht]
    simp [f_is_node, b_is_node, envOf, e1]
  | true =>
    obtain ⟨ds, rfl⟩ := tup_of ht
    obtain ⟨hx, hl⟩ := ok_tup h
    rw [ht] at e1
    cases ds with
    | nil => exact ⟨[], by simp [f_is_node, b_is_node, envOf, e1, nodeB]⟩
    | cons o xs =>
      have c1 : decide ((0 : Int) < (((o :: xs).length : Nat) : Int)) = true := decide_eq_true (by simp)
      have ho := hx o List.mem_cons_self
      have e2 := r_operator ho (as.map D.int) st
      rw [List.length_map] at e2
      rw [nodeB_t]
      have en0 : envOf 4 [D.tup (as.map D.int), .int i, .tup (o :: xs)] = [some (.tup (as.map D.int)), some (.int i), some (.tup (o :: xs)), none] := rfl
      have v0 : ([some (D.tup (as.map D.int)), some (D.int i), some (D.tup (o :: xs)), none] : En)[0]? = some (some (.tup (as.map D.int))) := rfl
      have v1 : ([some (D.tup (as.map D.int)), some (D.int i), some (D.tup (o :: xs)), none] : En)[1]? = some (some (.int i)) := rfl
      have v2 : ([some (D.tup (as.map D.int)), some (D.int i), some (D.tup (o :: xs)), none] : En)[2]? = some (some (.tup (o :: xs))) := rfl
      have len1 : ∀ a : D, [a].length = 1 := fun _ => rfl
      have len2 : ∀ a b : D, [a, b].length = 2 := fun _ _ => rfl
      have ix0 : ∀ s : Sto, fIx (.tup (o :: xs)) (.int 0) s = some (o, s) := fun s => by rw [u_ixT, atI_zero]; rfl
      cases hw : whB 0 ((as.length : Int) - 1) o with
      | false =>
        rw [hw] at e2
        refine ⟨[], run_rt (e2 := [some (.tup (as.map D.int)), some (.int i), some (.tup (o :: xs)), none]) ?_⟩
        rw [b_is_node, en0, Bool.false_and]
        refine s_ret ?_
        simp only [u_mAndV, u_bnd, u_mBlt, u_mArgs1, u_mArgs0, u_mVar, v0, v2, Option.join_some, Option.map_some, u_ret, u_stm, e1, u_lft, u_boolD, if_true, u_mOp, u_lenT, u_gt, c1, u_mCall, ix0, len1, len2, e2, Bool.false_eq_true, if_false, List.append_nil]
      | true =>
        rw [hw] at e2
        obtain ⟨k, rfl, k0, k1⟩ := int_of hw
        have eq1 : ∀ s : Sto, fEqA (.int ((((D.int k) :: xs).length : Nat) : Int)) (.int (1 + as.getD k.toNat 0)) s = some (.bl (lnB as (.int k) xs), s) := fun s => by
          rw [u_eqI]
          have : decide ((((D.int k) :: xs).length : Int) = 1 + as.getD k.toNat 0) = lnB as (.int k) xs := by
            show _ = decide ((xs.length : Int) = as.getD k.toNat 0)
            have : ((((D.int k) :: xs).length : Int) = 1 + as.getD k.toNat 0) ↔ ((xs.length : Int) = as.getD k.toNat 0) := by simp; omega
            exact decide_eq_decide.mpr this
          rw [this]
        have ad : ∀ s : Sto, fAddB (.int 1) (.int (as.getD k.toNat 0)) s = some (.int (1 + as.getD k.toNat 0), s) := fun s => by simp
        have ixA : ∀ s : Sto, fIx (.tup (as.map D.int)) (.int k) s = some (.int (as.getD k.toNat 0), s) := fun s => by rw [u_ixT, ar_get k0 k1]; rfl
        cases hl2 : lnB as (.int k) xs with
        | false =>
          rw [hl2] at eq1
          refine ⟨[], run_rt (e2 := [some (.tup (as.map D.int)), some (.int i), some (.tup (.int k :: xs)), none]) ?_⟩
          rw [b_is_node, en0, Bool.false_and, Bool.true_and]
          refine s_ret ?_
          simp only [u_mAndV, u_bnd, u_mBlt, u_mArgs1, u_mArgs0, u_mVar, v0, v2, Option.join_some, Option.map_some, u_ret, u_stm, e1, u_lft, u_boolD, if_true, u_mOp, u_lenT, u_gt, c1, u_mCall, ix0, len1, len2, e2, ixA, ad, Bool.false_eq_true, if_false, List.append_nil]
          simp only [eq1, u_boolD, Option.map_some, Bool.false_eq_true, if_false, u_ret]
        | true =>
          rw [hl2] at eq1
          obtain ⟨j, h1⟩ := lc_bools (ds := xs) (B := whB 0 (i - 1)) (mi := mIter (mSl (mVar 2) (some (ret (.int 1))) none)) (vs := [3]) (set := setN 3) (elt := mCall 3 f_is_between (mArgs [(mVar 3), (ret (.int 0)), (mOp fSubB (mVar 1) (ret (.int 1)))])) (en := [some (.tup (as.map D.int)), some (.int i), some (.tup (.int k :: xs)), none]) (st := st)
            (by simp [fSl, cutD_1, iterD]) (by simp at hl; omega) (fun d hd s => ⟨[some (.tup (as.map D.int)), some (.int i), some (.tup (.int k :: xs)), some d], [], by simp [wipeE], by simp [r_between (hx d (List.mem_cons_of_mem _ hd))]⟩)
          have h2 := r_all (bs := xs.map (whB 0 (i - 1))) (l := st.length) (st := st ++ [(xs.map (whB 0 (i - 1))).map D.bl] ++ j) (by rw [List.append_assoc]; exact at0)
          refine ⟨[(xs.map (whB 0 (i - 1))).map D.bl] ++ j, ?_⟩
          have ev : xs.all (whB 0 (i - 1)) = (xs.map (whB 0 (i - 1))).all fun b => b := by simp [List.all_map, Function.comp_def]
          rw [Bool.true_and, Bool.true_and, ev, ← List.append_assoc]
          refine run_rt (e2 := [some (.tup (as.map D.int)), some (.int i), some (.tup (.int k :: xs)), none]) ?_
          rw [b_is_node, en0]
          refine s_ret ?_
          simp only [u_mAndV, u_bnd, u_mBlt, u_mArgs1, u_mArgs0, u_mVar, v0, v2, Option.join_some, Option.map_some, u_ret, u_stm, e1, u_lft, u_boolD, if_true, u_mOp, u_lenT, u_gt, c1, u_mCall, ix0, len1, len2, e2, ixA, ad]
          simp only [eq1, u_boolD, Option.map_some, if_true, u_mBlt, u_mArgs1, u_mArgs0, u_bnd, u_ret, h1, u_stm, u_lft, h2]
theorem r_need_ar {as : List Int} (ha : Ar as) (st : Sto) : ∃ j, f_need_arities [.tup (as.map D.int)] st = some (.ok .non, st ++ j) := by
  have ok : Ok (.tup (as.map D.int)) := .tup (fun x hx => by
    obtain ⟨a, _, rfl⟩ := List.mem_map.mp hx
    exact .int a) (by rw [List.length_map]; have := ha.2.1; omega)
  obtain ⟨j, h⟩ := r_ar ok st
  have e : arB (.tup (as.map D.int)) = true := by
    rw [arB_tup, List.length_map, decide_eq_true ha.1, decide_eq_true ha.2.1, Bool.true_and, Bool.true_and, List.all_eq_true]
    intro x hx
    obtain ⟨a, h1, rfl⟩ := List.mem_map.mp hx
    have := ha.2.2 a h1
    show (decide (0 ≤ a) && decide (a ≤ 2)) = true
    rw [decide_eq_true this.1, decide_eq_true this.2]; rfl
  rw [e] at h
  exact ⟨j, by simp [f_need_arities, b_need_arities, envOf, h]⟩
theorem r_ar_no {d : D} (h : Ok d) (n : arB d = false) (st : Sto) : ∃ j, f_need_arities [d] st = some (.error ⟨"NoArities", []⟩, st ++ j) := by
  obtain ⟨j, e⟩ := r_ar h st
  rw [n] at e
  exact ⟨j, by simp [f_need_arities, b_need_arities, envOf, e, sRaise]⟩
def ndB (as : List Int) : D → Bool
  | .tup [.int i, d] => nodeB as i d
  | _ => false
theorem go_all (as : List Int) : ∀ (ds : List D) (i : Nat), goB as (i : Int) ds = (numbered i ds).all (ndB as)
  | [], _ => rfl
  | d :: r, i => by
    show (nodeB as (i : Int) d && goB as ((i : Int) + 1) r) = _
    rw [show ((i : Int) + 1) = ((i + 1 : Nat) : Int) from rfl, go_all as r (i + 1)]; rfl
theorem r_tree {as : List Int} (ha : Ar as) {d : D} (h : Ok d) (st : Sto) : ∃ j, f_is_tree [.tup (as.map D.int), d] st = some (.ok (.bl (treeB as d)), st ++ j) := by
  obtain ⟨j0, h0⟩ := r_need_ar ha st
  have e1 := fun s : Sto => u_tup (st := s) h
  have en0 : envOf 4 [D.tup (as.map D.int), d] = [some (.tup (as.map D.int)), some d, none, none] := rfl
  have v0 : ([some (D.tup (as.map D.int)), some d, none, none] : En)[0]? = some (some (.tup (as.map D.int))) := rfl
  have v1 : ([some (D.tup (as.map D.int)), some d, none, none] : En)[1]? = some (some d) := rfl
  have st0 : ∀ k : MS, sSeq (sExpr (mCall 1 f_need_arities (mArgs [(mVar 0)]))) k [some (.tup (as.map D.int)), some d, none, none] st = k [some (.tup (as.map D.int)), some d, none, none] (st ++ j0) := fun k => by
    rw [u_sSeq]; simp [h0]
  cases ht : tupB d with
  | false =>
    refine ⟨j0, run_rt (e2 := [some (.tup (as.map D.int)), some d, none, none]) ?_⟩
    rw [ht] at e1
    rw [treeB_n ht, b_is_tree, en0, st0]
    refine s_ret ?_
    simp only [u_mAndV, u_bnd, u_mBlt, u_mArgs1, u_mArgs0, u_mVar, v1, Option.join_some, Option.map_some, u_ret, u_stm, e1, u_lft, u_boolD, Bool.false_eq_true, if_false]
  | true =>
    obtain ⟨ds, rfl⟩ := tup_of ht
    obtain ⟨hx, hl⟩ := ok_tup h
    rw [ht] at e1
    cases ds with
    | nil =>
      refine ⟨j0, run_rt (e2 := [some (.tup (as.map D.int)), some (.tup []), none, none]) ?_⟩
      rw [b_is_tree, en0, st0]
      refine s_ret ?_
      have c0 : decide ((0 : Int) < ((([] : List D).length : Nat) : Int)) = false := by simp
      simp only [u_mAndV, u_bnd, u_mBlt, u_mArgs1, u_mArgs0, u_mVar, v1, Option.join_some, Option.map_some, u_ret, u_stm, e1, u_lft, u_boolD, if_true, u_mOp, u_lenT, u_gt, c0, Bool.false_eq_true, if_false]
      rfl
    | cons x xs =>
      have nl : (numbered 0 (x :: xs)).length = (x :: xs).length := by rw [numbered_len]
      have c1 : decide ((0 : Int) < (((x :: xs).length : Nat) : Int)) = true := decide_eq_true (by simp)
      obtain ⟨j, h1⟩ := lc_bools (ds := numbered 0 (x :: xs)) (B := ndB as) (mi := mEnum (mVar 1)) (vs := [2, 3]) (set := setTup 2 [(setN 2), (setN 3)]) (elt := mCall 3 f_is_node (mArgs [(mVar 0), (mVar 2), (mVar 3)])) (en := [some (.tup (as.map D.int)), some (.tup (x :: xs)), none, none]) (st := st ++ j0)
        (by simp [mEnum]) (by rw [nl]; omega) (fun d hd s => by
          obtain ⟨k, hk⟩ := List.mem_iff_getElem?.mp hd
          rw [numbered_get, Nat.zero_add] at hk
          cases hn : (x :: xs)[k]? with
          | none => rw [hn] at hk; cases hk
          | some n =>
            rw [hn] at hk
            cases hk
            obtain ⟨j1, e2⟩ := r_node (as := as) (i := (k : Int)) (hx n (List.mem_of_getElem? hn)) (st ++ j0 ++ s)
            refine ⟨[some (.tup (as.map D.int)), some (.tup (x :: xs)), some (.int (k : Int)), some n], j1, by simp [setTup, setT, wipeE], ?_⟩
            have z : (3 : Nat) = 3 := rfl
            have w0 : ([some (D.tup (as.map D.int)), some (D.tup (x :: xs)), some (D.int (k : Int)), some n] : En)[0]? = some (some (.tup (as.map D.int))) := rfl
            have w2 : ([some (D.tup (as.map D.int)), some (D.tup (x :: xs)), some (D.int (k : Int)), some n] : En)[2]? = some (some (.int (k : Int))) := rfl
            have w3 : ([some (D.tup (as.map D.int)), some (D.tup (x :: xs)), some (D.int (k : Int)), some n] : En)[3]? = some (some n) := rfl
            simp only [u_mCall, u_mArgs1, u_mArgs0, u_bnd, u_mVar, w0, w2, w3, Option.join_some, Option.map_some, u_ret, List.length_cons, List.length_nil, Nat.zero_add, Nat.reduceAdd, if_true, e2]
            rfl)
      have h2 := r_all (bs := (numbered 0 (x :: xs)).map (ndB as)) (l := (st ++ j0).length) (st := st ++ j0 ++ [((numbered 0 (x :: xs)).map (ndB as)).map D.bl] ++ j) (by rw [List.append_assoc (st ++ j0)]; exact at0)
      refine ⟨j0 ++ ([((numbered 0 (x :: xs)).map (ndB as)).map D.bl] ++ j), run_rt (e2 := [some (.tup (as.map D.int)), some (.tup (x :: xs)), none, none]) ?_⟩
      have ev : treeB as (.tup (x :: xs)) = ((numbered 0 (x :: xs)).map (ndB as)).all fun b => b := by
        show goB as 0 (x :: xs) = _
        rw [show (0 : Int) = ((0 : Nat) : Int) from rfl, go_all]; simp [List.all_map, Function.comp_def]
      rw [ev, b_is_tree, en0, st0, show st ++ (j0 ++ ([((numbered 0 (x :: xs)).map (ndB as)).map D.bl] ++ j)) = st ++ j0 ++ [((numbered 0 (x :: xs)).map (ndB as)).map D.bl] ++ j by simp]
      refine s_ret ?_
      simp only [u_mAndV, u_bnd, u_mBlt, u_mArgs1, u_mArgs0, u_mVar, v1, Option.join_some, Option.map_some, u_ret, u_stm, e1, u_lft, u_boolD, if_true, u_mOp, u_lenT, u_gt, c1, h1, h2]
end M2
set_option Elab.async false
set_option linter.all false
set_option maxRecDepth 100000
set_option maxHeartbeats 4000000
namespace M2
open PySem PySem.Spec PyProof.Rows L2
open Classical
variable [Tb]
/-! ### what the law calls a tree -/
def Lc (B : Nat → Prop) (st : Sto) (d : D) : Prop := tupB d = true → ∀ st', FB B st st' → ∃ q, dat st' 64 d = some q ∧ q.canLay0 = true
theorem Kr.lc {B : Nat → Prop} {st : Sto} {d : D} (h : Kr B st d) : Lc B st d := fun t st' hs => by
  obtain ⟨ds, rfl⟩ := tup_of t
  obtain ⟨x, hx⟩ := h
  have e : fRepr [.tup ds] st' = some (.str x, st') := hx st' hs
  unfold fRepr at e
  cases hd : dat st' 64 (.tup ds) with
  | none => simp only [hd, Option.bind_none] at e; cases e
  | some q =>
    simp only [hd, Option.bind_some] at e
    split at e
    · rename_i c
      exact ⟨q, rfl, c.1⟩
    · cases e
theorem Lc.mono {B : Nat → Prop} {st st' : Sto} {d : D} (h : Lc B st d) (f : FB B st st') : Lc B st' d := fun t s hs => h t s (f.trans hs)
theorem can_get : ∀ {qs : List PyData}, PyData.canLayAll0 qs = true → ∀ q ∈ qs, q.canLay0 = true
  | [], _, q, h => nomatch h
  | x :: xs, h, q, hq => by
    have h2 : (PyData.canLay0 x && PyData.canLayAll0 xs) = true := h
    rw [Bool.and_eq_true] at h2
    rcases List.mem_cons.mp hq with rfl | hq
    · exact h2.1
    · exact can_get h2.2 q hq
theorem Lc.part {B : Nat → Prop} {st : Sto} {ds : List D} (h : Lc B st (.tup ds)) {x : D} (hx : x ∈ ds) : Lc B st x := fun _ st' hs => by
  obtain ⟨q, e, c⟩ := h rfl st' hs
  unfold dat at e
  cases e2 : datL st' 63 ds with
  | none => rw [e2] at e; cases e
  | some qs =>
    rw [e2] at e
    cases e
    obtain ⟨k, hk⟩ := List.mem_iff_getElem?.mp hx
    obtain ⟨q, h1, h2⟩ := datL_get e2 hk
    exact ⟨q, dat_up _ _ _ _ h2, can_get c q (List.mem_of_getElem? h1)⟩
theorem Lc.empty {B : Nat → Prop} {st : Sto} {ds : List D} (h : Lc B st (.tup ds)) {s : Sto} (hs : FB B st s) : fEqA (.tup ds) (.tup []) s = some (.bl (decide (ds = [])), s) := by
  obtain ⟨q, e1, c⟩ := h rfl s hs
  have e2 : dat s 64 (.tup []) = some (.tuple []) := by simp [dat, datL]
  obtain ⟨qs, rfl, hl⟩ : ∃ qs, q = .tuple qs ∧ qs.length = ds.length := by
    unfold dat at e1
    cases e : datL s 63 ds with
    | none => rw [e] at e1; cases e1
    | some qs => rw [e] at e1; cases e1; exact ⟨qs, rfl, datL_len e⟩
  have e3 : PyData.eqv (.tuple qs) (.tuple []) = decide (ds = []) := by
    cases ds with
    | nil =>
      cases qs with
      | nil => rfl
      | cons _ _ => simp at hl
    | cons x xs =>
      cases qs with
      | nil => simp at hl
      | cons _ _ => rfl
  show fEq (.tup ds) (.tup []) s = _
  unfold fEq eqD
  rw [e1, e2]
  simp only [c, show PyData.canLay0 (.tuple []) = true from rfl, and_self, if_true, Option.map_some, e3]
theorem sLoop_nil {it : IT} {set : SetE} {body : MS} {en : En} {st : Sto} (h : noLoc it = true) : sLoop it set body [] en st = some (.nx, en, st) := by
  have hg : gOk it st := noLoc_ok h st
  exact if_pos hg
theorem sLoop_nx {it : IT} {set : SetE} {body : MS} {en en1 en2 : En} {st st2 : Sto} {d : D} {r : List D} (h : noLoc it = true) (e1 : set d en = some en1) (e2 : body en1 st = some (.nx, en2, st2)) : sLoop it set body (d :: r) en st = sLoop it set body r en2 st2 := by
  have hg : gOk it st := noLoc_ok h st
  refine (if_pos hg).trans ?_
  rw [e1]
  simp only [e2]
theorem sLoop_rt {it : IT} {set : SetE} {body : MS} {en en1 en2 : En} {st st2 : Sto} {d x : D} {r : List D} (h : noLoc it = true) (e1 : set d en = some en1) (e2 : body en1 st = some (.rt x, en2, st2)) : sLoop it set body (d :: r) en st = some (.rt x, en2, st2) := by
  have hg : gOk it st := noLoc_ok h st
  refine (if_pos hg).trans ?_
  rw [e1]
  simp only [e2]
def fin (b : Bool) : Ctl := if b = true then .nx else .rt (.bl false)
end M2
set_option Elab.async false
set_option linter.all false
set_option maxRecDepth 100000
set_option maxHeartbeats 4000000
namespace M2
open PySem PySem.Spec PyProof.Rows L2
open Classical
variable [Tb]
theorem s_forR {mi : MM IT} {set : SetE} {body k : MS} {en en2 : En} {st st1 st2 : Sto} {it : IT} (h : mi en st = some (.ok it, st1)) (hl : sLoop it set body it.items en st1 = some (.nx, en2, st2)) : sSeq (sFor mi set body) k en st = k en2 st2 := by
  rw [u_sSeq, u_sFor, u_sEx, h]
  simp only [hl]
theorem rng_items {n i : Nat} {d : D} (h : ((List.range n).map fun (i : Nat) => D.int (i : Int))[i]? = some d) : i < n ∧ d = .int (i : Int) := by
  have hi : i < n := by simpa using (List.getElem?_eq_some_iff.mp h).1
  rw [List.getElem?_map, List.getElem?_range hi] at h
  cases h
  exact ⟨hi, rfl⟩
theorem ev_var {i : Nat} {d : D} {en : En} {st : Sto} (h : en[i]? = some (some d)) : mVar i en st = some (.ok d, st) := by
  rw [u_mVar, h]; rfl
theorem ev_op {f : FD2} {a b : MM D} {x y z : D} {en : En} {s0 s1 s2 s3 : Sto} (ha : a en s0 = some (.ok x, s1)) (hb : b en s1 = some (.ok y, s2)) (hf : f x y s2 = some (z, s3)) : mOp f a b en s0 = some (.ok z, s3) := by
  rw [u_mOp]
  simp only [u_bnd, ha, hb, u_stm, hf, Option.map_some]
theorem ev_itr {m : MM D} {d : D} {it : IT} {en : En} {s0 s1 : Sto} (h : m en s0 = some (.ok d, s1)) (hi : iterD d s1 = some it) : mIter m en s0 = some (.ok it, s1) := by
  rw [u_mIter]
  simp only [u_bnd, h, u_asg, hi, Option.map_some]
theorem s_exp {m : MM D} {d : D} {k : MS} {en : En} {s0 s1 : Sto} (h : m en s0 = some (.ok d, s1)) : sSeq (sExpr m) k en s0 = k en s1 := by
  rw [u_sSeq, u_sExpr, u_sEx, h]; rfl
theorem ev_app {mo mv : MM D} {l : Nat} {v : D} {ds : List D} {en : En} {s0 s1 s2 : Sto} (ho : mo en s0 = some (.ok (.mu l), s1)) (hv : mv en s1 = some (.ok v, s2)) (h : s2[l]? = some ds) (hl : ds.length < 100000) : mApp mo mv en s0 = some (.ok .non, s2.set l (ds ++ [v])) := by
  rw [u_mApp]
  simp only [u_bnd, ho, u_lft, locD, Option.map_some, u_mArgs1, u_mArgs0, hv, u_ret, u_stm, h, Option.bind_some, if_pos hl]
theorem ev_ext {mo mv : MM D} {l q : Nat} {xs ys : List D} {en : En} {s0 s1 s2 : Sto} (ho : mo en s0 = some (.ok (.mu l), s1)) (hv : mv en s1 = some (.ok (.mu q), s2)) (h : s2[l]? = some xs) (h2 : s2[q]? = some ys) (hl : xs.length + ys.length < 100000) : mMt fExt mo mv en s0 = some (.ok .non, s2.set l (xs ++ ys)) := by
  unfold mMt
  simp only [u_bnd, ho, u_lft, locD, Option.map_some, u_mArgs1, u_mArgs0, hv, u_ret, u_stm, fExt, h, h2, Option.bind_some, if_pos hl]
theorem ev_tup3 {a b c : MM D} {x y z : D} {en : En} {s : Sto} (ha : a en s = some (.ok x, s)) (hb : b en s = some (.ok y, s)) (hc : c en s = some (.ok z, s)) : mTup [a, b, c] en s = some (.ok (.tup [x, y, z]), s) := by
  rw [u_mTup]
  have z3 : (3 : Nat) < 100000 := by decide
  simp only [u_bnd, u_mArgs1, u_mArgs0, ha, hb, hc, u_ret, u_lft, List.length_cons, List.length_nil, Nat.zero_add, Nat.reduceAdd, if_pos z3, Option.map_some]
theorem ev_or {a b : MM Bool} {p q : Bool} {en : En} {s s1 s2 : Sto} (h : a en s = some (.ok p, s1)) (h2 : p = false → b en s1 = some (.ok q, s2)) (h3 : p = true → s2 = s1) : mOr a b en s = some (.ok (p || q), s2) := by
  rw [u_mOr]
  simp only [u_bnd, h]
  cases p with
  | true => rw [h3 rfl]; rfl
  | false => rw [if_neg Bool.false_ne_true, h2 rfl]; rfl
theorem ev_and {a b : MM Bool} {p q : Bool} {en : En} {s s1 s2 : Sto} (h : a en s = some (.ok p, s1)) (h2 : p = true → b en s1 = some (.ok q, s2)) (h3 : p = false → s2 = s1) : mAnd a b en s = some (.ok (p && q), s2) := by
  rw [u_mAnd]
  simp only [u_bnd, h]
  cases p with
  | true => rw [if_pos rfl, h2 rfl]; rfl
  | false => rw [h3 rfl]; rfl
theorem s_ifE {c : MM Bool} {b : Bool} {x k : MS} {en : En} {s s1 : Sto} (h : c en s = some (.ok b, s1)) : sSeq (sIf c x sNx) k en s = (sSeq (if b = true then x else sNx) k) en s1 := by
  rw [u_sSeq, u_sIf, u_sEx, h, u_sSeq]
theorem ev_callM {f : FD} {m : MM D} {d r : D} {en : En} {s s1 s2 : Sto} (hm : m en s = some (.ok d, s1)) (h : f [d] s1 = some (.ok r, s2)) : mCall 1 f (mArgs [m]) en s = some (.ok r, s2) := by
  simp only [u_mCall, u_bnd, u_mArgs1, u_mArgs0, hm, u_ret, List.length_cons, List.length_nil, Nat.zero_add, if_true, h]
theorem ev_callM2 {f : FD} {m n : MM D} {d e r : D} {en : En} {s s1 s2 s3 : Sto} (hm : m en s = some (.ok d, s1)) (hn : n en s1 = some (.ok e, s2)) (h : f [d, e] s2 = some (.ok r, s3)) : mCall 2 f (mArgs [m, n]) en s = some (.ok r, s3) := by
  simp only [u_mCall, u_bnd, u_mArgs1, u_mArgs0, hm, hn, u_ret, List.length_cons, List.length_nil, Nat.zero_add, Nat.reduceAdd, if_true, h]
theorem ev_callM3 {f : FD} {m n o : MM D} {d e g r : D} {en : En} {s s1 s2 s3 s4 : Sto} (hm : m en s = some (.ok d, s1)) (hn : n en s1 = some (.ok e, s2)) (ho : o en s2 = some (.ok g, s3)) (h : f [d, e, g] s3 = some (.ok r, s4)) : mCall 3 f (mArgs [m, n, o]) en s = some (.ok r, s4) := by
  simp only [u_mCall, u_bnd, u_mArgs1, u_mArgs0, hm, hn, ho, u_ret, List.length_cons, List.length_nil, Nat.zero_add, Nat.reduceAdd, if_true, h]
theorem ev_blt1 {f : FDB} {m : MM D} {d r : D} {en : En} {s s1 s2 : Sto} (hm : m en s = some (.ok d, s1)) (h : f [d] s1 = some (r, s2)) : mBlt f (mArgs [m]) en s = some (.ok r, s2) := by
  simp only [u_mBlt, u_bnd, u_mArgs1, u_mArgs0, hm, u_ret, u_stm, h, Option.map_some]
theorem rng_c {en : En} {st : Sto} {c : Int} {n : Nat} (e : c = (n : Int)) (hc : n ≤ 1000) : mRng1 (ret (.int c)) en st = some (.ok ⟨(List.range n).map fun (i : Nat) => D.int (i : Int), none, []⟩, st) := by
  subst e
  have := rng_ok (en := en) (st := st) (st1 := st) (m := ret (.int (n : Int))) (r := (n : Int)) rfl (by omega) (by omega)
  simpa using this
theorem ev_notT {m : MM D} {b : Bool} {en : En} {s s1 : Sto} (h : m en s = some (.ok (.bl b), s1)) : mNot (mTru m) en s = some (.ok (!b), s1) := by
  simp only [u_mNot, u_bnd, u_mTru, h, u_asg, u_truB, Option.map_some, u_ret]
theorem cutD_from (xs : List D) (t : Nat) : cutD xs (some (t : Int)) none = xs.drop t := by
  unfold cutD
  rw [HT.sIx_none, show HT.sIx xs.length 0 (some (t : Int)) = min t xs.length from HT.sIx_nat xs.length 0 t]
  by_cases h : t ≤ xs.length
  · rw [Nat.min_eq_left h, List.take_of_length_le (by simp)]
  · rw [Nat.min_eq_right (by omega), List.drop_length, List.take_nil, List.drop_eq_nil_of_le (by omega)]
theorem t1 {m : MM D} {x : D} {en : En} {st st1 : Sto} (h : m en st = some (.ok x, st1)) : mTup [m] en st = some (.ok (.tup [x]), st1) := by
  have z1 : (1 : Nat) < 100000 := by decide
  simp only [u_mTup, u_bnd, u_mArgs1, u_mArgs0, h, u_ret, u_lft, List.length_cons, List.length_nil, Nat.zero_add, if_pos z1, Option.map_some]
theorem sl_mu {v l : Nat} {xs : List D} {lo hi : Option (MM D)} {l1 h1 : Option Int} {en : En} {s : Sto} (hv : en[v]? = some (some (.mu l))) (hl : s[l]? = some xs) (p1 : mPart lo en s = some (.ok l1, s)) (p2 : mPart hi en s = some (.ok h1, s)) : mSl (mVar v) lo hi en s = some (.ok (.mu s.length), s ++ [cutD xs l1 h1]) := by
  have f : fSl (.mu l) l1 h1 s = some (.mu s.length, s ++ [cutD xs l1 h1]) := by unfold fSl; simp only [hl, Option.map_some]
  simp only [u_mSl, u_bnd, u_mVar, hv, Option.join_some, Option.map_some, p1, p2, u_stm, f]
theorem add_mu {l k : Nat} {xs ys : List D} {s : Sto} (hl : s[l]? = some xs) (hk : s[k]? = some ys) (h : xs.length + ys.length < 100000) : fAddB (.mu l) (.mu k) s = some (.mu s.length, s ++ [xs ++ ys]) := by
  rw [u_addBm, u_addM, hl, hk]
  simp only []
  rw [if_pos h]
theorem part_v {v : Nat} {t : Int} {en : En} {s : Sto} (h : en[v]? = some (some (.int t))) : mPart (some (mVar v)) en s = some (.ok (some t), s) := by
  simp only [u_mPart1, u_bnd, u_mVar, h, Option.join_some, Option.map_some, u_lft]
theorem s_par {i j : Nat} {m n : MM D} {d e : D} {k : MS} {en en1 : En} {s s1 s2 : Sto} (hm : m en s = some (.ok d, s1)) (hn : n en s1 = some (.ok e, s2)) (h : i < en.length ∧ j < en.length) (he : (en.set i (some d)).set j (some e) = en1) : sSeq (sPar i j [m, n]) k en s = k en1 s2 := by
  rw [u_sSeq, u_sPar]
  simp only [u_sEx, u_mArgs1, u_mArgs0, u_bnd, hm, hn, u_ret, if_pos h, he]
theorem eq_ints {l k : Nat} {st : Sto} {ns : List Int} (h1 : st[l]? = some (ns.map D.int)) (h2 : st[k]? = some []) : fEqA (.mu l) (.mu k) st = some (.bl (decide (ns = [])), st) ∧ fNeA (.mu l) (.mu k) st = some (.bl (!decide (ns = [])), st) := by
  have e1 : dat st 64 (.mu l) = some (.list (ns.map PyData.int)) := by rw [dat_mu h1, datL_ints st 62]; rfl
  have e2 : dat st 64 (.mu k) = some (.list []) := by rw [dat_mu h2]; simp [datL]
  have e3 : PyData.eqv (.list (ns.map PyData.int)) (.list []) = decide (ns = []) := by
    cases ns with
    | nil => rfl
    | cons x xs => rfl
  have c1 : PyData.canLay0 (.list (ns.map PyData.int)) = true := can_ints ns
  have c2 : PyData.canLay0 (.list []) = true := rfl
  constructor
  · show fEq (.mu l) (.mu k) st = _
    unfold fEq eqD
    rw [e1, e2]
    simp only [c1, c2, and_self, if_true, Option.map_some, e3]
  · show fNe (.mu l) (.mu k) st = _
    unfold fNe eqD
    rw [e1, e2]
    simp only [c1, c2, and_self, if_true, Option.map_some, e3]
theorem list_rep {α : Type} {f : α → D} {P : α → Prop} : ∀ {ds : List D}, (∀ d ∈ ds, ∃ x, d = f x ∧ P x) → ∃ xs : List α, ds = xs.map f ∧ ∀ x ∈ xs, P x
  | [], _ => ⟨[], rfl, fun _ h => nomatch h⟩
  | d :: ds, h => by
    obtain ⟨x, rfl, hx⟩ := h d List.mem_cons_self
    obtain ⟨xs, rfl, hxs⟩ := list_rep (f := f) (P := P) fun e he => h e (List.mem_cons_of_mem _ he)
    exact ⟨x :: xs, rfl, fun y hy => by
      rcases List.mem_cons.mp hy with rfl | hy
      · exact hx
      · exact hxs y hy⟩
end M2
set_option Elab.async false
set_option linter.all false
set_option maxRecDepth 100000
set_option maxHeartbeats 4000000
namespace M2
open PySem PySem.Spec PyProof.Rows L2
open Classical
variable [Tb]
theorem r_arities {N p : Nat} {st : Sto} (hp : Pn N st p) (hN : N ≤ 100000000) :
    ∃ as st', f__law_arities [.mu p] st = some (.ok (.tpn as), st') ∧ (Ar as ∧ as.length ≤ 4) ∧ 0 ∈ as ∧ Pn (N + 20) st' p ∧ Fp p st st' := by
  have lp := hp.lt
  obtain ⟨s0, hs0⟩ : ∃ s0, s0 = st ++ [[D.int 0]] := ⟨_, rfl⟩
  have hp0 : Pn N s0 p := by rw [hs0]; exact hp.app _
  have F0 : Fp p st s0 := by rw [hs0]; exact Fp.app _
  have a0 : s0[st.length]? = some [D.int 0] := by rw [hs0]; simp
  obtain ⟨r, st1, d1, r0, r4, p1, F1⟩ := r_draw (many := 4) hp0 (by omega) (by decide) (by decide)
  have l1 := p1.lt
  obtain ⟨en, hen⟩ : ∃ en : En, en = [some (.mu p), none, none, none] := ⟨_, rfl⟩
  have v0 : en[0]? = some (some (.mu p)) := by rw [hen]; rfl
  obtain ⟨ws, s2, hlc, ⟨p2, F2⟩, hat, hlen, hR⟩ := lc_gen (mi := mRng1 (mCall 2 f__law_draw (mArgs [(mVar 0), (ret (.int 4))]))) (vs := [2]) (set := setN 2)
    (elt := mCall 2 f__law_pick (mArgs [(mVar 0), (mLst [(ret (.int 0)), (ret (.int 1)), (ret (.int 1)), (ret (.int 2)), (ret (.int 2))])])) (en := en) (st := s0) (st1 := st1)
    (it := ⟨(List.range r.toNat).map fun (i : Nat) => D.int (i : Int), none, []⟩) (fun i s => Pn (N + 1 + i) s p ∧ Fp p st1 s) (IntsP fun a => 0 ≤ a ∧ a ≤ 2)
    (rng_ok (ev_callM2 (ev_var v0) rfl d1) r0 (by omega)) rfl (by simp; omega) ⟨p1.app _, Fp.app _⟩ (fun i s acc ⟨h1, h2⟩ => ⟨h1.set (by omega) _, h2.set (Nat.le_refl _) _⟩)
    (fun i d s hd ⟨h1, h2⟩ hl => by
      obtain ⟨hi, rfl⟩ := rng_items hd
      obtain ⟨v, s3, e1, hv, p3, F3⟩ := r_pick (q := s.length) (ds := [.int 0, .int 1, .int 1, .int 2, .int 2]) (h1.app [[.int 0, .int 1, .int 1, .int 2, .int 2]]) (by omega) (by have := h1.lt; omega) (by simp) (by simp) (by simp)
      have F4 : Fp p s s3 := (Fp.app _).trans F3
      refine ⟨[some (.mu p), none, some (.int (i : Int)), none], v, s3, by rw [hen]; simp [wipeE], by simp [e1], ?_, ⟨p3.mono (by omega), h2.trans F4⟩, F4.2 _ hl (by omega)⟩
      simp at hv
      rcases hv with rfl | rfl | rfl <;> exact ⟨_, rfl, by omega, by omega⟩)
  obtain ⟨as1, rfl, has1⟩ := ints_of hR
  simp at hlen
  have lst : st.length ≠ p := by omega
  have b0 : s2[st.length]? = some [D.int 0] := by
    have h1 : st1[st.length]? = some [D.int 0] := by rw [F1.2 _ (List.getElem?_eq_some_iff.mp a0).1 lst]; exact a0
    rw [F2.2 _ (List.getElem?_eq_some_iff.mp h1).1 lst]; exact h1
  have ad := add_mu (xs := [D.int 0]) (ys := as1.map D.int) b0 hat (by simp; omega)
  obtain ⟨L, hL⟩ : ∃ L : List Int, L = 0 :: as1 := ⟨_, rfl⟩
  have eL : [D.int 0] ++ as1.map D.int = L.map D.int := by rw [hL]; rfl
  rw [eL] at ad
  have Ll : L.length = as1.length + 1 := by rw [hL]; rfl
  have L0 : 0 ∈ L := by rw [hL]; exact List.mem_cons_self
  have Lb : ∀ a ∈ L, 0 ≤ a ∧ a ≤ 2 := fun a ha => by
    rw [hL] at ha
    rcases List.mem_cons.mp ha with rfl | ha
    · exact ⟨by decide, by decide⟩
    · exact has1 a ha
  obtain ⟨s3, hs3⟩ : ∃ s3, s3 = s2 ++ [L.map D.int] := ⟨_, rfl⟩
  rw [← hs3] at ad
  have q3 : s3[s2.length]? = some (L.map D.int) := by rw [hs3]; exact at0
  have P3 : Pn (N + 4) s3 p := by rw [hs3]; exact (p2.mono (by simp; omega)).app _
  have F3 : Fp p s2 s3 := by rw [hs3]; exact Fp.app _
  have l2 := p2.lt
  obtain ⟨en1, hen1⟩ : ∃ en1 : En, en1 = [some (.mu p), some (.mu s2.length), none, none] := ⟨_, rfl⟩
  have lnL : ∀ s : Sto, s[s2.length]? = some (L.map D.int) → mBlt fLen (mArgs [(mVar 1)]) en1 s = some (.ok (.int (L.length : Nat)), s) := fun s h => ev_blt1 (ev_var (by rw [hen1]; rfl)) (by simp [fLen, h])
  obtain ⟨k, s4, d4, k0, k1, P4, F4⟩ := r_draw (many := (L.length : Nat)) P3 (by omega) (by omega) (log10 (by omega) (by omega))
  have q4 : s4[s2.length]? = some (L.map D.int) := F4.at q3 (by omega)
  obtain ⟨t, rfl⟩ : ∃ t : Nat, k = (t : Int) := ⟨k.toNat, by omega⟩
  obtain ⟨en2, hen2⟩ : ∃ en2 : En, en2 = [some (.mu p), some (.mu s2.length), none, some (.int (t : Int))] := ⟨_, rfl⟩
  have w1 : en2[1]? = some (some (.mu s2.length)) := by rw [hen2]; rfl
  have w3 : en2[3]? = some (some (.int (t : Int))) := by rw [hen2]; rfl
  have c1 := sl_mu (lo := some (mVar 3)) (hi := none) w1 q4 (part_v w3) (h1 := none) (by simp)
  rw [cutD_from] at c1
  obtain ⟨s5, hs5⟩ : ∃ s5, s5 = s4 ++ [(L.map D.int).drop t] := ⟨_, rfl⟩
  rw [← hs5] at c1
  have q5 : s5[s2.length]? = some (L.map D.int) := by rw [hs5]; exact at_app q4 _
  have c2 := sl_mu (lo := none) (hi := some (mVar 3)) (l1 := none) w1 q5 (by simp) (part_v w3)
  rw [cutD_to _ (by omega), Int.toNat_natCast] at c2
  obtain ⟨s6, hs6⟩ : ∃ s6, s6 = s5 ++ [(L.map D.int).take t] := ⟨_, rfl⟩
  rw [← hs6] at c2
  have x1 : s6[s4.length]? = some ((L.map D.int).drop t) := by rw [hs6, hs5]; exact at_app at0 _
  have x2 : s6[s5.length]? = some ((L.map D.int).take t) := by rw [hs6]; exact at0
  have ad2 := add_mu x1 x2 (by simp; omega)
  obtain ⟨M, hM⟩ : ∃ M : List Int, M = L.drop t ++ L.take t := ⟨_, rfl⟩
  have eM : (L.map D.int).drop t ++ (L.map D.int).take t = M.map D.int := by rw [hM, List.map_append, List.map_drop, List.map_take]
  rw [eM] at ad2
  have Mm : ∀ a, a ∈ M ↔ a ∈ L := fun a => by
    rw [hM, List.mem_append, or_comm, ← List.mem_append, List.take_append_drop]
  have Ml : M.length = L.length := by rw [hM, List.length_append, List.length_drop, List.length_take]; omega
  refine ⟨M, s6 ++ [M.map D.int], ?_, ⟨⟨by omega, by omega, fun a ha => Lb a ((Mm a).mp ha)⟩, by omega⟩, (Mm 0).mpr L0, ?_, ?_⟩
  · have e0 : envOf 4 [D.mu p] = en := by rw [hen]; rfl
    refine run_rt (e2 := en2) ?_
    rw [b__law_arities, e0, s_asg (en1 := en1) (d := .mu s2.length) (st' := s3) (setN 1) (ev_op (s1 := s0) (s2 := s2) (by rw [hs0]; simp) hlc ad) (by rw [hen, hen1]; simp),
      s_asg (en1 := en2) (d := .int (t : Int)) (st' := s4) (setN 3) (ev_callM2 (ev_var (by rw [hen1]; rfl)) (lnL s3 q3) d4) (by rw [hen1, hen2]; simp)]
    refine s_ret (ev_blt1 (ev_op c1 c2 ad2) ?_)
    show ((s6 ++ [M.map D.int])[s6.length]?).bind _ = _
    rw [at0, Option.bind_some, intsD_map]; rfl
  · rw [hs6, hs5]; exact ((P4.mono (by omega)).app _).app _ |>.app _
  · rw [hs6, hs5]; exact ((((F0.trans F1).trans F2).trans F3).trans F4).trans (((Fp.app _).trans (Fp.app _)).trans (Fp.app _))
end M2
set_option Elab.async false
set_option linter.all false
set_option maxRecDepth 100000
set_option maxHeartbeats 4000000
namespace M2
open PySem PySem.Spec PyProof.Rows L2
open Classical
variable [Tb]
theorem lt_parts {N p f : Nat} {st : Sto} {as : List Int} {x2 x3 x5 : Option D} {ns : List Nd} {w : Int} {c : Nat} (hp : Pn N st p) (hN : N ≤ 900000000) (hf : st[f]? = some (ns.map nD)) (hfp : f ≠ p) (h1 : 1 ≤ ns.length) (h2 : ns.length ≤ 500) (hw : atI (as.map D.int) w = some (.int (c : Int))) (hc : c ≤ 2) (x7 x9 : Option D) :
    ∃ (ps : List Int) (st' : Sto), mLc (mRng1 (mOp fIx (mVar 1) (mVar 4))) [10] (setN 10) (ret true) (mIf (mB (mOp fEqA (mCall 2 f__law_draw (mArgs [(mVar 0), (ret (.int 2))])) (ret (.int 0)))) (mVar 8) (mCall 2 f__law_draw (mArgs [(mVar 0), (mBlt fLen (mArgs [(mVar 6)]))])))
      [some (.mu p), some (.tup (as.map D.int)), x2, x3, some (.int w), x5, some (.mu f), x7, some (.int ((ns.length : Int) - 1)), x9, none] st = some (.ok (.mu st.length), st') ∧ st'[st.length]? = some (ps.map D.int) ∧ ps.length = c ∧ (∀ q ∈ ps, 0 ≤ q ∧ q < (ns.length : Int)) ∧ Pn (N + 4) st' p ∧ Fp p st st' := by
  have lp := hp.lt
  have lf := (List.getElem?_eq_some_iff.mp hf).1
  obtain ⟨A, hA⟩ : ∃ A, A = D.tup (as.map D.int) := ⟨_, rfl⟩
  have ix : ∀ s : Sto, fIx A (.int w) s = some (.int (c : Int), s) := fun s => by rw [hA, u_ixT, hw]; rfl
  rw [← hA]
  obtain ⟨ws, s2, hlc, ⟨p2, F2⟩, hat, hlen, hR⟩ := lc_gen (mi := mRng1 (mOp fIx (mVar 1) (mVar 4))) (vs := [10]) (set := setN 10)
    (elt := mIf (mB (mOp fEqA (mCall 2 f__law_draw (mArgs [(mVar 0), (ret (.int 2))])) (ret (.int 0)))) (mVar 8) (mCall 2 f__law_draw (mArgs [(mVar 0), (mBlt fLen (mArgs [(mVar 6)]))])))
    (en := [some (.mu p), some A, x2, x3, some (.int w), x5, some (.mu f), x7, some (.int ((ns.length : Int) - 1)), x9, none]) (st := st) (st1 := st) (it := ⟨(List.range (c : Int).toNat).map fun (i : Nat) => D.int (i : Int), none, []⟩)
    (fun i s => Pn (N + 2 * i) s p ∧ Fp p st s) (IntsP fun q => 0 ≤ q ∧ q < (ns.length : Int)) (rng_ok (ev_op (ev_var rfl) (ev_var rfl) (ix _)) (by omega) (by omega)) rfl (by simp; omega) ⟨hp.app _, Fp.app _⟩ (fun i s acc ⟨a1, a2⟩ => ⟨a1.set (by omega) _, a2.set (Nat.le_refl _) _⟩)
    (fun i d s hd ⟨a1, a2⟩ hl => by
      obtain ⟨hi, rfl⟩ := rng_items hd
      have hi2 : i < 2 := by omega
      have sf := a2.at hf hfp
      obtain ⟨k, s3, e1, k0, k2, p3, F3⟩ := r_draw (many := 2) a1 (by omega) (by decide) (by decide)
      have sf3 := F3.at sf hfp
      obtain ⟨r, s4, e2, r0, r1, p4, F4⟩ := r_draw (many := (ns.length : Int)) p3 (by omega) (by omega) (log10 (by omega) (by omega))
      by_cases hk : k = 0
      · subst hk
        refine ⟨[some (.mu p), some A, x2, x3, some (.int w), x5, some (.mu f), x7, some (.int ((ns.length : Int) - 1)), x9, some (.int (i : Int))], .int ((ns.length : Int) - 1), s3, by simp [wipeE], by simp [e1], ⟨_, rfl, by omega, by omega⟩, ⟨p3.mono (by omega), a2.trans F3⟩, F3.2 _ hl (by omega)⟩
      · have F5 := F3.trans F4
        refine ⟨[some (.mu p), some A, x2, x3, some (.int w), x5, some (.mu f), x7, some (.int ((ns.length : Int) - 1)), x9, some (.int (i : Int))], .int r, s4, by simp [wipeE], by simp [e1, hk, sf3, e2], ⟨_, rfl, r0, r1⟩, ⟨p4.mono (by omega), a2.trans F5⟩, F5.2 _ hl (by omega)⟩)
  obtain ⟨ps, rfl, hps⟩ := ints_of hR
  refine ⟨ps, s2, hlc, hat, by simpa using hlen, hps, p2.mono (by simp; omega), F2⟩
noncomputable abbrev mTreeB : MS := (sSeq (sAsg (mCall 2 f__law_draw (mArgs [(mVar 0), (mBlt fLen (mArgs [(mVar 1)]))])) (setN 4))
    (sSeq (sAsg (mOp fSubB (mBlt fLen (mArgs [(mVar 6)])) (ret (.int 1))) (setN 8))
    (sSeq (sAsg (mLc (mRng1 (mOp fIx (mVar 1) (mVar 4))) [10] (setN 10) (ret true) (mIf (mB (mOp fEqA (mCall 2 f__law_draw (mArgs [(mVar 0), (ret (.int 2))])) (ret (.int 0)))) (mVar 8) (mCall 2 f__law_draw (mArgs [(mVar 0), (mBlt fLen (mArgs [(mVar 6)]))])))) (setN 9))
    (sSeq (sExpr (mApp (mVar 6) (mOp fAddB (mTup [(mVar 4)]) (mBlt fTuple (mArgs [(mVar 9)])))))
    sNx))))
theorem r_ltree {N p : Nat} {st : Sto} {as : List Int} {upto : Int} (hp : Pn N st p) (hN : N ≤ 100000000) (ha : Ar as) (h0 : 0 ∈ as) (u0 : 1 ≤ upto) (u1 : upto ≤ 100) :
    ∃ ns st', f__law_tree [.mu p, .tup (as.map D.int), .int upto] st = some (.ok (tD ns), st') ∧ Vt as ns ∧ (ns.length : Int) ≤ upto ∧ Pn (N + 1000) st' p ∧ Fp p st st' := by
  obtain ⟨os, hlv, ne, fewo, hos⟩ := leaves (en := [some (.mu p), some (.tup (as.map D.int)), some (.int upto), none, none, none, none, none, none, none, none]) (st := st) (as := as) (A := .mu p) (by simp [wipeE]) rfl (by have := ha.2.1; omega) h0
  have lp := hp.lt
  have c1 : (st ++ [os.map D.int])[st.length]? = some (os.map D.int) := by simp
  obtain ⟨d, s1, e1, hd, p1, F1⟩ := r_pick (q := st.length) (ds := os.map D.int) (hp.app [os.map D.int]) (by omega) (by omega) c1 (by simp; exact List.length_pos_iff.mpr ne) (by simpa using fewo)
  obtain ⟨o, ho, rfl⟩ := List.mem_map.mp hd
  obtain ⟨o0, o1, o2⟩ := hos o ho
  have hF1 : Fp p st s1 := (Fp.app _).trans F1
  obtain ⟨s2, hs2⟩ : ∃ s2, s2 = s1 ++ [[nD (o, [])]] := ⟨_, rfl⟩
  have P2 : Pn (N + 1) s2 p := by rw [hs2]; exact p1.app _
  have q2 : s2[s1.length]? = some (([(o, [])] : List Nd).map nD) := by rw [hs2]; exact at0
  obtain ⟨r, s3, e3, r0, r1, p3, F3⟩ := r_draw (many := upto) P2 (by omega) (by omega) (log10 (by omega) (by omega))
  have lf : s1.length ≠ p := by have := p1.lt; omega
  have f3 : s3[s1.length]? = some (([(o, [])] : List Nd).map nD) := F3.at q2 lf
  have g0 : Good as [(o, [])] := fun i n e => by
    have := (List.getElem?_eq_some_iff.mp e).1
    simp at this
    subst this
    simp at e
    subst e
    exact ⟨o0, o1, by simpa using o2, fun _ h => nomatch h⟩
  have hF3 : Fp p st s3 := by
    have : Fp p s1 s2 := by rw [hs2]; exact Fp.app _
    exact (hF1.trans this).trans F3
  obtain ⟨A, hA⟩ : ∃ A, A = D.tup (as.map D.int) := ⟨_, rfl⟩
  let J : Nat → En → Sto → Prop := fun i en s => (∃ x4 x7 x8 x9, en = [some (.mu p), some A, some (.int upto), some (.mu st.length), x4, none, some (.mu s1.length), x7, x8, x9, none]) ∧ Pn (N + 2 + 6 * i) s p ∧ Fp p st s ∧
    ∃ ns : List Nd, s[s1.length]? = some (ns.map nD) ∧ ns.length = i + 1 ∧ Good as ns
  obtain ⟨en', s', hl, ⟨x4, x7, x8, x9, he⟩, p', F', ns, hf, hn, hg⟩ := loop_gen (set := setN 7) (it := ⟨(List.range r.toNat).map fun (i : Nat) => D.int (i : Int), none, []⟩)
    (body := mTreeB) J rfl (fun i d en s hd ⟨⟨x4, x7, x8, x9, he⟩, pJ, FJ, ns, hf, hn, hg⟩ => by
      subst he
      obtain ⟨hi, rfl⟩ := rng_items hd
      have al := ha.2.1
      have al1 := ha.1
      obtain ⟨w, u1s, d1, w0, w1, q1, G1⟩ := r_draw (many := (as.length : Int)) pJ (by omega) (by omega) (log10 (by omega) (by omega))
      have hf1 := G1.at hf lf
      have lw : w.toNat < as.length := by omega
      have hw : as[w.toNat]? = some as[w.toNat] := List.getElem?_eq_getElem lw
      have hwa := ha.2.2 _ (List.mem_of_getElem? hw)
      obtain ⟨c, hc⟩ : ∃ c : Nat, as[w.toNat] = (c : Int) := ⟨as[w.toNat].toNat, by omega⟩
      rw [hc] at hw hwa
      have iw : atI (as.map D.int) w = some (.int (c : Int)) := atI_ok w0 (by rw [List.getElem?_map, hw]; rfl)
      obtain ⟨ps, t3, hps, hat, pl, pb, q3, G3⟩ := lt_parts (as := as) (x2 := some (.int upto)) (x3 := some (.mu st.length)) (x5 := none) (w := w) q1 (by omega) hf1 lf (by omega) (by omega) iw (by omega) (some (.int (i : Int))) x9
      have hf3 := G3.at hf1 lf
      let n : Nd := (w, ps)
      have hVn : Vn as ns.length n := ⟨w0, w1, by show as[w.toNat]? = some ((ps.length : Nat) : Int); rw [hw, pl], fun q hq => pb q hq⟩
      have hG : Fp p s t3 := G1.trans G3
      have lf3 := (List.getElem?_eq_some_iff.mp hf3).1
      rw [← hA] at hps
      have fl : fLen [A] s = some (.int (as.length : Nat), s) := by rw [hA]; simp [fLen]
      have b1 : ∀ k : MS, sSeq (sAsg (mCall 2 f__law_draw (mArgs [(mVar 0), (mBlt fLen (mArgs [(mVar 1)]))])) (setN 4)) k [some (.mu p), some A, some (.int upto), some (.mu st.length), x4, none, some (.mu s1.length), some (.int (i : Int)), x8, x9, none] s = k [some (.mu p), some A, some (.int upto), some (.mu st.length), some (.int w), none, some (.mu s1.length), some (.int (i : Int)), x8, x9, none] u1s := fun k =>
        s_asg (d := .int w) (setN 4) (ev_callM2 (ev_var rfl) (ev_blt1 (ev_var rfl) fl) d1) (by simp)
      have b2 : ∀ k : MS, sSeq (sAsg (mOp fSubB (mBlt fLen (mArgs [(mVar 6)])) (ret (.int 1))) (setN 8)) k [some (.mu p), some A, some (.int upto), some (.mu st.length), some (.int w), none, some (.mu s1.length), some (.int (i : Int)), x8, x9, none] u1s = k [some (.mu p), some A, some (.int upto), some (.mu st.length), some (.int w), none, some (.mu s1.length), some (.int (i : Int)), some (.int ((ns.length : Int) - 1)), x9, none] u1s := fun k =>
        s_asg (d := .int ((ns.length : Int) - 1)) (setN 8) (ev_op (ev_blt1 (ev_var rfl) (r := .int (ns.length : Nat)) (s2 := u1s) (by simp [fLen, hf1])) rfl (by simp)) (by simp)
      have b3 : ∀ k : MS, sSeq (sAsg (mLc (mRng1 (mOp fIx (mVar 1) (mVar 4))) [10] (setN 10) (ret true) (mIf (mB (mOp fEqA (mCall 2 f__law_draw (mArgs [(mVar 0), (ret (.int 2))])) (ret (.int 0)))) (mVar 8) (mCall 2 f__law_draw (mArgs [(mVar 0), (mBlt fLen (mArgs [(mVar 6)]))])))) (setN 9)) k [some (.mu p), some A, some (.int upto), some (.mu st.length), some (.int w), none, some (.mu s1.length), some (.int (i : Int)), some (.int ((ns.length : Int) - 1)), x9, none] u1s = k [some (.mu p), some A, some (.int upto), some (.mu st.length), some (.int w), none, some (.mu s1.length), some (.int (i : Int)), some (.int ((ns.length : Int) - 1)), some (.mu u1s.length), none] t3 := fun k =>
        s_asg (d := .mu u1s.length) (setN 9) hps (by simp)
      have tp : fTuple [.mu u1s.length] t3 = some (.tup (ps.map D.int), t3) := by rw [u_tupM, hat]; rfl
      have ad : fAddB (.tup [.int w]) (.tup (ps.map D.int)) t3 = some (nD n, t3) := by rw [u_addBt, u_addT, if_pos (by simp; omega)]; rfl
      refine ⟨[some (.mu p), some A, some (.int upto), some (.mu st.length), x4, none, some (.mu s1.length), some (.int (i : Int)), x8, x9, none],
        [some (.mu p), some A, some (.int upto), some (.mu st.length), some (.int w), none, some (.mu s1.length), some (.int (i : Int)), some (.int ((ns.length : Int) - 1)), some (.mu u1s.length), none],
        t3.set s1.length (ns.map nD ++ [nD n]), by simp, ?_, ⟨_, _, _, _, rfl⟩, ((q3.set lf _).mono (by omega)), ?_, ns ++ [n], ?_, by simp [hn], hg.snoc hVn⟩
      · rw [mTreeB, b1, b2, b3, s_exp (ev_app (ev_var rfl) (ev_op (t1 (ev_var rfl)) (ev_blt1 (ev_var rfl) tp) ad) hf3 (by simp; omega)), u_sNx]
      · exact (FJ.trans hG).set hF1.1 _
      · rw [List.getElem?_set_self lf3]; simp) (en := [some (.mu p), some A, some (.int upto), some (.mu st.length), none, none, some (.mu s1.length), none, none, none, none]) (st := s3)
    ⟨⟨none, none, none, none, rfl⟩, p3.mono (by omega), hF3, [(o, [])], f3, rfl, g0⟩
  subst he
  simp at hn
  refine ⟨ns, s', ?_, ⟨by omega, by omega, hg⟩, by omega, p'.mono (by simp; omega), F'⟩
  rw [← hA] at hlv ⊢
  have e0 : envOf 11 [D.mu p, A, D.int upto] = [some (.mu p), some A, some (.int upto), none, none, none, none, none, none, none, none] := rfl
  have z1 : (1 : Nat) < 100000 := by decide
  refine run_rt (e2 := [some (.mu p), some A, some (.int upto), some (.mu st.length), x4, none, some (.mu s1.length), x7, x8, x9, none]) ?_
  have ml : mLst [(mTup [(mCall 2 f__law_pick (mArgs [(mVar 0), (mVar 3)]))])] [some (.mu p), some A, some (.int upto), some (.mu st.length), none, none, none, none, none, none, none] (st ++ [os.map D.int]) = some (.ok (.mu s1.length), s2) := by
    have := t1 (ev_callM2 (f := f__law_pick) (m := mVar 0) (n := mVar 3) (en := [some (.mu p), some A, some (.int upto), some (.mu st.length), none, none, none, none, none, none, none]) (ev_var rfl) (ev_var rfl) e1)
    simp only [u_mLst, u_mArgs1, u_mArgs0, u_bnd, this, u_ret, u_mNewL, u_stm, List.length_cons, List.length_nil, Nat.zero_add, if_pos z1, Option.map_some, hs2]
    rfl
  rw [b__law_tree, e0, s_asg (en1 := [some (.mu p), some A, some (.int upto), some (.mu st.length), none, none, none, none, none, none, none]) (d := .mu st.length) (setN 3) hlv (by simp),
    s_asg (en1 := [some (.mu p), some A, some (.int upto), some (.mu st.length), none, none, some (.mu s1.length), none, none, none, none]) (d := .mu s1.length) (st' := s2) (setN 6) ml (by simp),
    s_forR (rng_ok (ev_callM2 (ev_var rfl) (ev_var rfl) e3) r0 (by omega)) hl]
  exact s_ret (ev_blt1 (ev_var rfl) (by rw [u_tupM, hf]; rfl))
end M2
set_option Elab.async false
set_option linter.all false
set_option maxRecDepth 100000
set_option maxHeartbeats 4000000
namespace M2
open PySem PySem.Spec PyProof.Rows L2
open Classical
variable [Tb]
/-- the numbers of operators that have arguments -/
theorem inners {en : En} {st : Sto} {as : List Int} {A : D} (hen : wipeE en [4, 5] = [some A, some (.tup (as.map D.int)), en[2]?.join, none, none, none, none, none, none, none]) (h1 : en[1]? = some (some (.tup (as.map D.int)))) (hl : as.length ≤ 1000) :
    ∃ os : List Int, mLc (mEnum (mVar 1)) [4, 5] (setTup 2 [(setN 4), (setN 5)]) (mB (mOp fGt (mVar 5) (ret (.int 0)))) (mVar 4) en st = some (.ok (.mu st.length), st ++ [os.map D.int]) ∧ os.length ≤ 1000 ∧
      ∀ o ∈ os, 0 ≤ o ∧ o < (as.length : Int) ∧ ∃ c, as[o.toNat]? = some c ∧ 0 < c := by
  let g : D → Option D := fun d => match d with
    | .tup [.int i, .int a] => if decide (a > 0) = true then some (.int i) else none
    | _ => none
  have items : ∀ (k : Nat) (d : D), (numbered 0 (as.map D.int))[k]? = some d ↔ ∃ a, as[k]? = some a ∧ d = .tup [.int (k : Int), .int a] := fun k d => by
    rw [numbered_get, List.getElem?_map]
    cases as[k]? with
    | none => simp
    | some a => simp [eq_comm]
  have hf := lc_filter (mi := mEnum (mVar 1)) (vs := [4, 5]) (set := setTup 2 [(setN 4), (setN 5)]) (test := mB (mOp fGt (mVar 5) (ret (.int 0)))) (elt := mVar 4) (en := en) (st := st) (st1 := st) (it := ⟨numbered 0 (as.map D.int), none, []⟩) g
    (by simp [mEnum, h1]) rfl (by show _ ≤ _; rw [numbered_len]; simpa using hl) (fun d hd => by
      obtain ⟨k, hk⟩ := List.mem_iff_getElem?.mp hd
      obtain ⟨a, ha, rfl⟩ := (items k d).mp hk
      refine ⟨[some A, some (.tup (as.map D.int)), en[2]?.join, none, some (.int (k : Int)), some (.int a), none, none, none, none], decide (a > 0), .int (k : Int), ?_, fun s => by simp, fun s => by simp, rfl⟩
      rw [hen]; simp [setTup, setT])
  have hall : ∀ v ∈ (numbered 0 (as.map D.int)).filterMap g, IntsP (fun o => 0 ≤ o ∧ o < (as.length : Int) ∧ ∃ c, as[o.toNat]? = some c ∧ 0 < c) v := fun v hv => by
    obtain ⟨d, hd, hg⟩ := List.mem_filterMap.mp hv
    obtain ⟨k, hk⟩ := List.mem_iff_getElem?.mp hd
    obtain ⟨a, ha, rfl⟩ := (items k d).mp hk
    have hkl := (List.getElem?_eq_some_iff.mp ha).1
    replace hg : (if decide (a > 0) = true then some (D.int (k : Int)) else none) = some v := hg
    by_cases h : a > 0
    · rw [if_pos (by simpa using h)] at hg
      cases hg
      exact ⟨k, rfl, by omega, by omega, a, by simpa using ha, h⟩
    · rw [if_neg (by simpa using h)] at hg
      cases hg
  obtain ⟨os, eos, hos⟩ := ints_of hall
  have hlen : os.length ≤ 1000 := by
    have : (os.map D.int).length ≤ 1000 := by
      rw [← eos]
      exact Nat.le_trans (List.length_filterMap_le _ _) (by rw [numbered_len]; simpa using hl)
    simpa using this
  exact ⟨os, by rw [hf]; show some (_, st ++ [(numbered 0 (as.map D.int)).filterMap g]) = _; rw [eos], hlen, hos⟩
/-- a step: operator, place, the other trees -/
abbrev Sp := Int × Nat × List (List Nd)
def spD (s : Sp) : D := .tup [.int s.1, .int (s.2.1 : Int), .tup (s.2.2.map tD)]
structure Sn (as : List Int) (s : Sp) : Prop where
  lo : 0 ≤ s.1
  hi : s.1 < as.length
  ar : as[s.1.toNat]? = some ((s.2.2.length : Int) + 1)
  pl : s.2.1 ≤ s.2.2.length
  vt : ∀ t ∈ s.2.2, Vt as t ∧ t.length ≤ 3
noncomputable abbrev mCtxB : MS := (sSeq (sAsg (mCall 2 f__law_pick (mArgs [(mVar 0), (mVar 3)])) (setN 4))
    (sSeq (sAsg (mBlt fTuple (mArgs [(mLc (mRng1 (mOp fSubB (mOp fIx (mVar 1) (mVar 4)) (ret (.int 1)))) [9] (setN 9) (ret true) (mCall 3 f__law_tree (mArgs [(mVar 0), (mVar 1), (ret (.int 3))])))])) (setN 8))
    (sSeq (sExpr (mApp (mVar 6) (mTup [(mVar 4), (mCall 2 f__law_draw (mArgs [(mVar 0), (mOp fIx (mVar 1) (mVar 4))])), (mVar 8)])))
    sNx)))
theorem ev_tup3' {a b c : MM D} {x y z : D} {en : En} {s s1 s2 s3 : Sto} (ha : a en s = some (.ok x, s1)) (hb : b en s1 = some (.ok y, s2)) (hc : c en s2 = some (.ok z, s3)) : mTup [a, b, c] en s = some (.ok (.tup [x, y, z]), s3) := by
  rw [u_mTup]
  have z3 : (3 : Nat) < 100000 := by decide
  simp only [u_bnd, u_mArgs1, u_mArgs0, ha, hb, hc, u_ret, u_lft, List.length_cons, List.length_nil, Nat.zero_add, Nat.reduceAdd, if_pos z3, Option.map_some]
theorem r_lcontext {N p : Nat} {st : Sto} {as : List Int} {upto : Int} (hp : Pn N st p) (hN : N ≤ 90000000) (ha : Ar as) (h0 : 0 ∈ as) (u0 : 0 ≤ upto) (u1 : upto ≤ 10) :
    ∃ (cs : List Sp) (st' : Sto), f__law_context [.mu p, .tup (as.map D.int), .int upto] st = some (.ok (.tup (cs.map spD)), st') ∧ (∀ s ∈ cs, Sn as s) ∧ (cs.length : Int) ≤ upto ∧ Pn (N + 20000) st' p ∧ Fp p st st' := by
  obtain ⟨os, hlv, fewo, hos⟩ := inners (en := [some (.mu p), some (.tup (as.map D.int)), some (.int upto), none, none, none, none, none, none, none]) (st := st) (as := as) (A := .mu p) (by simp [wipeE]) rfl (by have := ha.2.1; omega)
  have lp := hp.lt
  have sne : st.length ≠ p := by omega
  obtain ⟨s1, hs1⟩ : ∃ s1, s1 = st ++ [os.map D.int] := ⟨_, rfl⟩
  rw [← hs1] at hlv
  have q1 : s1[st.length]? = some (os.map D.int) := by rw [hs1]; exact at0
  have P1 : Pn N s1 p := by rw [hs1]; exact hp.app _
  have F1 : Fp p st s1 := by rw [hs1]; exact Fp.app _
  obtain ⟨f, hf0⟩ : ∃ f, f = s1.length := ⟨_, rfl⟩
  have lf : f ≠ p := by have := P1.lt; omega
  obtain ⟨s2, hs2⟩ : ∃ s2, s2 = s1 ++ [([] : List D)] := ⟨_, rfl⟩
  have q2 : s2[f]? = some [] := by rw [hs2, hf0]; exact at0
  have q2' : s2[st.length]? = some (os.map D.int) := by rw [hs2]; exact at_app q1 _
  have P2 : Pn N s2 p := by rw [hs2]; exact P1.app _
  have F2 : Fp p st s2 := by rw [hs2]; exact F1.trans (Fp.app _)
  obtain ⟨A, hA⟩ : ∃ A, A = D.tup (as.map D.int) := ⟨_, rfl⟩
  rw [← hA] at hlv ⊢
  have z0 : (0 : Nat) < 100000 := by decide
  have mnil : ∀ (en : En) (s : Sto), mLst [] en s = some (.ok (.mu s.length), s ++ [[]]) := fun en s => by
    simp only [u_mLst, u_mArgs0, u_bnd, u_ret, u_mNewL, u_stm, List.length_nil, if_pos z0, Option.map_some]
  obtain ⟨en3, hen3⟩ : ∃ en3 : En, en3 = [some (.mu p), some A, some (.int upto), some (.mu st.length), none, none, some (.mu f), none, none, none] := ⟨_, rfl⟩
  have v0 : en3[0]? = some (some (.mu p)) := by rw [hen3]; rfl
  have v2 : en3[2]? = some (some (.int upto)) := by rw [hen3]; rfl
  have v3 : en3[3]? = some (some (.mu st.length)) := by rw [hen3]; rfl
  obtain ⟨s3, hs3⟩ : ∃ s3, s3 = s2 ++ [([] : List D)] := ⟨_, rfl⟩
  have q3 : s3[f]? = some [] := by rw [hs3]; exact at_app q2 _
  have q3' : s3[st.length]? = some (os.map D.int) := by rw [hs3]; exact at_app q2' _
  have q3n : s3[s2.length]? = some [] := by rw [hs3]; exact at0
  have P3 : Pn N s3 p := by rw [hs3]; exact P2.app _
  have F3 : Fp p st s3 := by rw [hs3]; exact F2.trans (Fp.app _)
  have ne := (eq_ints q3' q3n).2
  have hc : ∃ (r : Int) (s4 : Sto), mIf (mB (mOp fNeA (mVar 3) (mLst []))) (mCall 2 f__law_draw (mArgs [(mVar 0), (mOp fAddB (ret (.int 1)) (mVar 2))])) (ret (.int 0)) en3 s2 = some (.ok (.int r), s4) ∧ 0 ≤ r ∧ r ≤ upto ∧ (0 < r → os ≠ []) ∧ Pn (N + 1) s4 p ∧ Fp p s3 s4 := by
    have cnd : mB (mOp fNeA (mVar 3) (mLst [])) en3 s2 = some (.ok (!decide (os = [])), s3) := by
      have := ev_op (ev_var (st := s2) v3) (mnil en3 s2) (by rw [← hs3]; exact ne)
      simp only [u_mB, u_bnd, this, u_lft, u_boolD, Option.map_some]
    by_cases e : os = []
    · refine ⟨0, s3, ?_, by decide, u0, fun h => absurd h (by decide), P3.mono (by omega), Fp.refl⟩
      rw [u_mIf]
      simp only [u_bnd, cnd, e, decide_true, Bool.not_true, Bool.false_eq_true, if_false, u_ret]
    · obtain ⟨r, s4, e1, r0, r1, P4, F4⟩ := r_draw (many := 1 + upto) P3 (by omega) (by omega) (log10 (by omega) (by omega))
      refine ⟨r, s4, ?_, r0, by omega, fun _ => e, P4, F4⟩
      have := ev_callM2 (f := f__law_draw) (ev_var (st := s3) v0) (ev_op (a := ret (.int 1)) (b := mVar 2) (f := fAddB) (en := en3) (s0 := s3) rfl (ev_var v2) (z := .int (1 + upto)) (s3 := s3) (by simp)) e1
      rw [u_mIf]
      simp only [u_bnd, cnd, e, decide_false, Bool.not_false, if_true, this]
  obtain ⟨r, s4, ec, r0, r1, rne, P4, F4⟩ := hc
  have q4 : s4[f]? = some [] := F4.at q3 lf
  have q4' : s4[st.length]? = some (os.map D.int) := F4.at q3' sne
  let J : Nat → En → Sto → Prop := fun i en s => (∃ x4 x7 x8, en = [some (.mu p), some A, some (.int upto), some (.mu st.length), x4, none, some (.mu f), x7, x8, none]) ∧ Pn (N + 1 + 1010 * i) s p ∧ Fp p st s ∧ s[st.length]? = some (os.map D.int) ∧
    ∃ cs : List Sp, s[f]? = some (cs.map spD) ∧ cs.length = i ∧ ∀ s ∈ cs, Sn as s
  obtain ⟨en', s', hl, ⟨x4, x7, x8, he⟩, p', F', qo, cs, hf, hn, hg⟩ := loop_gen (set := setN 7) (it := ⟨(List.range r.toNat).map fun (i : Nat) => D.int (i : Int), none, []⟩)
    (body := mCtxB) J rfl (fun i d en s hd ⟨⟨x4, x7, x8, he⟩, pJ, FJ, qo, cs, hf, hn, hg⟩ => by
      subst he
      obtain ⟨hi, rfl⟩ := rng_items hd
      have ne0 := rne (by omega)
      obtain ⟨d, t1, d1, hd1, q1, G1⟩ := r_pick (q := st.length) (ds := os.map D.int) pJ (by omega) sne qo (by simp; exact List.length_pos_iff.mpr ne0) (by simpa using fewo)
      obtain ⟨o, ho, rfl⟩ := List.mem_map.mp hd1
      obtain ⟨o0, o1, c, oc, c0⟩ := hos o ho
      have c2 := ha.2.2 _ (List.mem_of_getElem? oc)
      have iw : ∀ s : Sto, fIx A (.int o) s = some (.int c, s) := fun s => by rw [hA, u_ixT, atI_ok o0 (by rw [List.getElem?_map, oc]; rfl)]; rfl
      obtain ⟨ws, t2, hlc, ⟨q2, G2⟩, hat, hlen, hR⟩ := lc_gen (mi := mRng1 (mOp fSubB (mOp fIx (mVar 1) (mVar 4)) (ret (.int 1)))) (vs := [9]) (set := setN 9)
        (elt := mCall 3 f__law_tree (mArgs [(mVar 0), (mVar 1), (ret (.int 3))])) (en := [some (.mu p), some A, some (.int upto), some (.mu st.length), some (.int o), none, some (.mu f), some (.int (i : Int)), x8, none]) (st := t1) (st1 := t1)
        (it := ⟨(List.range (c - 1).toNat).map fun (i : Nat) => D.int (i : Int), none, []⟩) (fun k s => Pn (N + 1 + 1010 * i + 1 + 1000 * k) s p ∧ Fp p t1 s) (fun v => ∃ ns, v = tD ns ∧ (Vt as ns ∧ ns.length ≤ 3))
        (rng_ok (ev_op (ev_op (ev_var rfl) (ev_var rfl) (iw _)) rfl (by simp)) (by omega) (by omega)) rfl (by simp; omega) ⟨q1.app _, Fp.app _⟩ (fun k s acc ⟨a1, a2⟩ => ⟨a1.set (by have := q1.lt; omega) _, a2.set (Nat.le_refl _) _⟩)
        (fun k d s hd ⟨a1, a2⟩ hl => by
          obtain ⟨hk, rfl⟩ := rng_items hd
          obtain ⟨ns, s5, e5, vt, nl, p5, F5⟩ := r_ltree (upto := 3) a1 (by omega) ha h0 (by decide) (by decide)
          rw [← hA] at e5
          exact ⟨[some (.mu p), some A, some (.int upto), some (.mu st.length), some (.int o), none, some (.mu f), some (.int (i : Int)), x8, some (.int (k : Int))], tD ns, s5, by simp [wipeE], ev_callM3 (ev_var rfl) (ev_var rfl) rfl e5, ⟨ns, rfl, vt, by omega⟩, ⟨p5.mono (by omega), a2.trans F5⟩, F5.2 _ hl (by have := q1.lt; omega)⟩)
      obtain ⟨ts, rfl, hts⟩ := list_rep (f := tD) (P := fun ns => Vt as ns ∧ ns.length ≤ 3) hR
      rw [List.length_map] at hlen
      have tl : ((ts.length : Nat) : Int) = c - 1 := by rw [hlen]; simp; omega
      have q2b : Pn (N + 1 + 1010 * i + 1001) t2 p := q2.mono (by simp; omega)
      obtain ⟨g, t3, d3, g0, g1, q3, G3⟩ := r_draw (many := c) q2b (by omega) c0 (log10 (by omega) (by omega))
      obtain ⟨g', rfl⟩ : ∃ g' : Nat, g = (g' : Int) := ⟨g.toNat, by omega⟩
      have hf3 : t3[f]? = some (cs.map spD) := G3.at (G2.at (G1.at hf lf) lf) lf
      have hG : Fp p s t3 := (G1.trans G2).trans G3
      let n : Sp := (o, g', ts)
      have hS : Sn as n := ⟨o0, o1, by show as[o.toNat]? = some ((ts.length : Nat) + 1 : Int); rw [oc, tl]; congr 1; omega, by show g' ≤ ts.length; omega, hts⟩
      have b1 : ∀ k : MS, sSeq (sAsg (mCall 2 f__law_pick (mArgs [(mVar 0), (mVar 3)])) (setN 4)) k [some (.mu p), some A, some (.int upto), some (.mu st.length), x4, none, some (.mu f), some (.int (i : Int)), x8, none] s = k [some (.mu p), some A, some (.int upto), some (.mu st.length), some (.int o), none, some (.mu f), some (.int (i : Int)), x8, none] t1 := fun k =>
        s_asg (d := .int o) (setN 4) (ev_callM2 (ev_var rfl) (ev_var rfl) d1) (by simp)
      have b2 : ∀ k : MS, sSeq (sAsg (mBlt fTuple (mArgs [(mLc (mRng1 (mOp fSubB (mOp fIx (mVar 1) (mVar 4)) (ret (.int 1)))) [9] (setN 9) (ret true) (mCall 3 f__law_tree (mArgs [(mVar 0), (mVar 1), (ret (.int 3))])))])) (setN 8)) k [some (.mu p), some A, some (.int upto), some (.mu st.length), some (.int o), none, some (.mu f), some (.int (i : Int)), x8, none] t1 = k [some (.mu p), some A, some (.int upto), some (.mu st.length), some (.int o), none, some (.mu f), some (.int (i : Int)), some (.tup (ts.map tD)), none] t2 := fun k =>
        s_asg (d := .tup (ts.map tD)) (setN 8) (ev_blt1 hlc (by rw [u_tupM, hat]; rfl)) (by simp)
      have lf3 := (List.getElem?_eq_some_iff.mp hf3).1
      refine ⟨[some (.mu p), some A, some (.int upto), some (.mu st.length), x4, none, some (.mu f), some (.int (i : Int)), x8, none],
        [some (.mu p), some A, some (.int upto), some (.mu st.length), some (.int o), none, some (.mu f), some (.int (i : Int)), some (.tup (ts.map tD)), none],
        t3.set f (cs.map spD ++ [spD n]), by simp, ?_, ⟨_, _, _, rfl⟩, ((q3.set lf _).mono (by omega)), ?_, ?_, cs ++ [n], ?_, by simp [hn], ?_⟩
      · rw [mCtxB, b1, b2, s_exp (ev_app (ev_var rfl) (ev_tup3' (ev_var rfl) (ev_callM2 (ev_var rfl) (ev_op (ev_var rfl) (ev_var rfl) (iw _)) d3) (ev_var rfl)) hf3 (by simp; omega)), u_sNx]
        rfl
      · exact (FJ.trans hG).set (by rw [hf0]; exact F1.1) _
      · rw [List.getElem?_set_ne (by rw [hf0, hs1]; simp)]
        exact hG.at qo sne
      · rw [List.getElem?_set_self lf3]; simp
      · intro z hz
        rcases List.mem_append.mp hz with hz | hz
        · exact hg z hz
        · simp at hz; subst hz; exact hS) (en := en3) (st := s4)
    ⟨⟨none, none, none, hen3⟩, P4.mono (by omega), F3.trans F4, q4', [], q4, rfl, fun _ h => nomatch h⟩
  subst he
  simp at hn
  refine ⟨cs, s', ?_, hg, by omega, p'.mono (by simp; omega), F'⟩
  have e0 : envOf 10 [D.mu p, A, D.int upto] = [some (.mu p), some A, some (.int upto), none, none, none, none, none, none, none] := rfl
  refine run_rt (e2 := [some (.mu p), some A, some (.int upto), some (.mu st.length), x4, none, some (.mu f), x7, x8, none]) ?_
  rw [b__law_context, e0, s_asg (en1 := [some (.mu p), some A, some (.int upto), some (.mu st.length), none, none, none, none, none, none]) (d := .mu st.length) (setN 3) hlv (by simp),
    s_asg (en1 := en3) (d := .mu f) (st' := s2) (setN 6) (by rw [mnil, hf0, hs2]) (by rw [hen3]; simp),
    s_forR (rng_ok ec r0 (by omega)) hl]
  exact s_ret (ev_blt1 (ev_var rfl) (by rw [u_tupM, hf]; rfl))
end M2
set_option Elab.async false
set_option linter.all false
set_option maxRecDepth 100000
set_option maxHeartbeats 4000000
namespace M2
open PySem PySem.Spec PyProof.Rows L2
open Classical
variable [Tb]
theorem wh_ok {lo hi i : Int} (h1 : lo ≤ i) (h2 : i ≤ hi) : whB lo hi (.int i) = true := by
  show (decide (lo ≤ i) && decide (i ≤ hi)) = true
  rw [decide_eq_true h1, decide_eq_true h2]; rfl
theorem ints_ok (xs : List Int) (h : xs.length ≤ 90000) : Ok (.tup (xs.map D.int)) := .tup (fun x hx => by
  obtain ⟨p, _, rfl⟩ := List.mem_map.mp hx
  exact .int _) (by simpa using h)
theorem nd_few {as : List Int} (ha : Ar as) {ns : List Nd} (g : Good as ns) : ∀ n ∈ ns, n.2.length ≤ 2 := fun n hn => by
  obtain ⟨i, hi⟩ := List.mem_iff_getElem?.mp hn
  exact ps_few ha (g i n hi)
theorem tr_ok {as : List Int} (ha : Ar as) {ns : List Nd} (g : Good as ns) (hl : ns.length ≤ 90000) : Ok (tD ns) := .tup (fun x hx => by
  obtain ⟨n, hn, rfl⟩ := List.mem_map.mp hx
  have := nd_few ha g n hn
  refine .tup (fun x hx => ?_) (by simp; omega)
  rcases List.mem_cons.mp hx with rfl | hx
  · exact .int _
  · obtain ⟨y, _, rfl⟩ := List.mem_map.mp hx
    exact .int _) (by simpa using hl)
theorem go_good {as : List Int} (ha : Ar as) : ∀ (ns : List Nd) (i : Nat), (∀ k nd, ns[k]? = some nd → Vn as (i + k) nd) → goB as (i : Int) (ns.map nD) = true
  | [], _, _ => rfl
  | nd :: ns, i, h => by
    have h0 := h 0 nd rfl
    have ih := go_good ha ns (i + 1) fun k m hk => by
      have := h (k + 1) m (by simpa using hk)
      rwa [show i + (k + 1) = i + 1 + k by omega] at this
    have nb : nodeB as (i : Int) (nD nd) = true := by
      unfold nD
      rw [nodeB_t, wh_ok h0.lo (by have := h0.hi; omega)]
      have l1 : lnB as (.int nd.1) (nd.2.map D.int) = true := by
        have hh := h0.hi
        have hlo := h0.lo
        have ar := h0.ar
        unfold lnB
        simp [ar]
      rw [l1]
      simp only [Bool.true_and]
      rw [List.all_eq_true]
      intro x hx
      obtain ⟨p, hp, rfl⟩ := List.mem_map.mp hx
      have := h0.ps p hp
      exact wh_ok this.1 (by omega)
    show (nodeB as (i : Int) (nD nd) && goB as ((i : Int) + 1) (ns.map nD)) = true
    rw [nb]
    exact ih
theorem tr_tree {as : List Int} (ha : Ar as) {ns : List Nd} (g : Good as ns) (h0 : 0 < ns.length) : treeB as (tD ns) = true := by
  have := go_good ha ns 0 fun k nd h => by rw [Nat.zero_add]; exact g k nd h
  unfold tD treeB
  cases ns with
  | nil => simp at h0
  | cons n r => simpa using this
end M2
set_option Elab.async false
set_option linter.all false
set_option maxRecDepth 100000
set_option maxHeartbeats 4000000
namespace M2
open PySem PySem.Spec PyProof.Rows L2
open Classical
variable [Tb]
theorem ev_andV {a b : MM D} {d : D} {en : En} {s s1 s2 : Sto} (ha : a en s = some (.ok (.bl true), s1)) (hb : b en s1 = some (.ok d, s2)) : mAndV a b en s = some (.ok d, s2) := by
  rw [u_mAndV]; simp only [u_bnd, ha, u_lft, u_boolD, Option.map_some, if_true, hb]
theorem ev_mB {m : MM D} {b : Bool} {en : En} {s s1 : Sto} (h : m en s = some (.ok (.bl b), s1)) : mB m en s = some (.ok b, s1) := by
  simp only [u_mB, u_bnd, h, u_lft, u_boolD, Option.map_some]
theorem isi_tup {v : Nat} {ds : List D} {en : En} {s : Sto} (h : en[v]? = some (some (.tup ds))) : mBlt fIsi (mArgs [(mVar v), (ret (.ty "tuple"))]) en s = some (.ok (.bl true), s) := by
  simp only [u_mBlt, u_bnd, u_mArgs1, u_mArgs0, u_mVar, h, Option.join_some, Option.map_some, u_ret, u_stm, u_isiT]
theorem len_tup {v : Nat} {ds : List D} {en : En} {s : Sto} (h : en[v]? = some (some (.tup ds))) : mBlt fLen (mArgs [(mVar v)]) en s = some (.ok (.int (ds.length : Nat)), s) :=
  ev_blt1 (ev_var h) (by simp [fLen])
theorem r_step {as : List Int} (ha : Ar as) {p : Sp} (h : Sn as p) (st : Sto) : ∃ j, f_is_step [.tup (as.map D.int), spD p] st = some (.ok (.bl true), st ++ j) := by
  obtain ⟨o, k, ts⟩ := p
  have o0 : 0 ≤ o := h.lo
  have o1 : o < as.length := h.hi
  have oa : as[o.toNat]? = some ((ts.length : Int) + 1) := h.ar
  have kl : k ≤ ts.length := h.pl
  have hv : ∀ t ∈ ts, Vt as t ∧ t.length ≤ 3 := h.vt
  have tl : ts.length ≤ 1 := by have := (ha.2.2 _ (List.mem_of_getElem? oa)).2; omega
  obtain ⟨e1, he1⟩ : ∃ e1 : En, e1 = [some (.tup (as.map D.int)), some (spD (o, k, ts)), none, none, none, none] := ⟨_, rfl⟩
  have sp : spD (o, k, ts) = .tup [.int o, .int (k : Int), .tup (ts.map tD)] := rfl
  have v1 : e1[1]? = some (some (.tup [.int o, .int (k : Int), .tup (ts.map tD)])) := by rw [he1]; rfl
  have c0 : mOr (mNot (mTru (mBlt fIsi (mArgs [(mVar 1), (ret (.ty "tuple"))])))) (mB (mOp fNeA (mBlt fLen (mArgs [(mVar 1)])) (ret (.int 3)))) e1 st = some (.ok false, st) :=
    ev_or (p := false) (q := false) (ev_notT (b := true) (isi_tup v1)) (fun _ => ev_mB (ev_op (len_tup v1) rfl (by simp))) (fun h => by cases h)
  obtain ⟨e2, he2⟩ : ∃ e2 : En, e2 = [some (.tup (as.map D.int)), some (spD (o, k, ts)), some (.int o), some (.int (k : Int)), some (.tup (ts.map tD)), none] := ⟨_, rfl⟩
  have w0 : e2[0]? = some (some (.tup (as.map D.int))) := by rw [he2]; rfl
  have w2 : e2[2]? = some (some (.int o)) := by rw [he2]; rfl
  have w3 : e2[3]? = some (some (.int (k : Int))) := by rw [he2]; rfl
  have w4 : e2[4]? = some (some (.tup (ts.map tD))) := by rw [he2]; rfl
  have iw : ∀ s : Sto, fIx (.tup (as.map D.int)) (.int o) s = some (.int ((ts.length : Int) + 1), s) := fun s => by rw [u_ixT, atI_ok o0 (by rw [List.getElem?_map, oa]; rfl)]; rfl
  have al : ∀ s : Sto, mOp fSubB (mOp fIx (mVar 0) (mVar 2)) (ret (.int 1)) e2 s = some (.ok (.int (ts.length : Int)), s) := fun s => ev_op (ev_op (ev_var w0) (ev_var w2) (iw s)) rfl (by simp)
  have g1 : mCall 2 f_is_operator (mArgs [(mVar 0), (mVar 2)]) e2 st = some (.ok (.bl true), st) := ev_callM2 (ev_var w0) (ev_var w2) (by
    rw [r_operator (.int _), wh_ok o0 (by rw [List.length_map]; omega)])
  have g2 : mCall 3 f_is_between (mArgs [(mVar 3), (ret (.int 0)), (mOp fSubB (mOp fIx (mVar 0) (mVar 2)) (ret (.int 1)))]) e2 st = some (.ok (.bl true), st) := ev_callM3 (ev_var w3) rfl (al st) (by
    rw [r_between (.int _), wh_ok (by omega) (by omega)])
  have g3 : mOp fEqA (mBlt fLen (mArgs [(mVar 4)])) (mOp fSubB (mOp fIx (mVar 0) (mVar 2)) (ret (.int 1))) e2 st = some (.ok (.bl true), st) := ev_op (len_tup w4) (al st) (by simp)
  obtain ⟨j, l⟩ := lc_pure (mi := mIter (mVar 4)) (vs := [5]) (set := setN 5) (elt := mCall 2 f_is_tree (mArgs [(mVar 0), (mVar 5)])) (en := e2) (st := st) (st1 := st) (it := ⟨ts.map tD, none, []⟩) (fun _ => .bl true) (ev_itr (ev_var w4) rfl) gok0 (by simp; omega) (fun i d s hd => by
    obtain ⟨t, ht, rfl⟩ := List.mem_map.mp (List.mem_of_getElem? hd)
    obtain ⟨vt, t3⟩ := hv t ht
    obtain ⟨j, e⟩ := r_tree ha (tr_ok ha vt.at' (by omega)) (st ++ s)
    rw [tr_tree ha vt.at' vt.ne] at e
    exact ⟨[some (.tup (as.map D.int)), some (spD (o, k, ts)), some (.int o), some (.int (k : Int)), some (.tup (ts.map tD)), some (tD t)], j, by rw [he2]; simp [wipeE], ev_callM2 (ev_var rfl) (ev_var rfl) e⟩)
  refine ⟨[List.map (fun _ => D.bl true) (List.range (ts.map tD).length)] ++ j, run_rt (e2 := e2) ?_⟩
  have e0 : envOf 6 [D.tup (as.map D.int), spD (o, k, ts)] = e1 := by rw [he1]; rfl
  rw [b_is_step, e0, s_if0 c0, s_asg (en1 := e2) (d := spD (o, k, ts)) (st' := st) (setTup 3 [(setN 2), (setN 3), (setN 4)]) (by rw [sp]; exact ev_var v1) (by rw [he1, he2, sp]; simp [setTup, setT])]
  refine s_ret (ev_andV g1 (ev_andV g2 (ev_andV (isi_tup w4) (ev_andV g3 (ev_blt1 l ?_)))))
  rw [← List.append_assoc]
  exact r_allT (xs := List.range (ts.map tD).length) (by rw [List.append_assoc]; exact at0)
end M2
set_option Elab.async false
set_option linter.all false
set_option maxRecDepth 100000
set_option maxHeartbeats 4000000
namespace M2
open PySem PySem.Spec PyProof.Rows L2
open Classical
variable [Tb]
theorem ne_kp {B : Nat → Prop} {st : Sto} {n W : Nat} {d : D} (h : Kp B st n W d) (hn : n ≤ 64) (ns : ∀ t, d ≠ .str t) : fNeA d d st = some (.bl false, st) := by
  obtain ⟨q, r, _, e⟩ := (h.up hn (Nat.le_refl W)).ex
  have : fNeA d d st = fNe d d st := by
    cases d with
    | str t => exact absurd rfl (ns t)
    | _ => rfl
  rw [this]
  unfold fNe eqD
  rw [e st .refl]
  simp only [r.can, and_self, if_true, Option.map_some, SeqAt.eqv_refl q r.can, Bool.not_true]
theorem kl_of {B : Nat → Prop} {st : Sto} {n W : Nat} : ∀ {ds : List D}, (∀ d ∈ ds, Kp B st n W d) → KL B st n ((W + 1) * ds.length) ds
  | [], _ => KL.nil
  | d :: ds, h => (KL.cons (h d List.mem_cons_self) (kl_of fun x hx => h x (List.mem_cons_of_mem _ hx))).up (Nat.le_refl _) (by rw [List.length_cons, Nat.mul_succ]; omega)
theorem tree_kp {B : Nat → Prop} {st : Sto} {m : Nat} {as : List Int} (ha : Ar as) {ns : List Nd} (g : Good as ns) (hl : ns.length ≤ 100) : Kp B st (m + 3) 3400 (tD ns) := by
  refine (Kp.tup (kl_of (W := 33) fun d hd => ?_)).up (Nat.le_refl _) (by rw [List.length_map]; omega)
  obtain ⟨nd, hn, rfl⟩ := List.mem_map.mp hd
  obtain ⟨i, hi⟩ := List.mem_iff_getElem?.mp hn
  have v := g i nd hi
  have il : i < ns.length := (List.getElem?_eq_some_iff.mp hi).1
  have pf := ps_few ha v
  have al := ha.2.1
  have k1 : ∀ x ∈ D.int nd.1 :: nd.2.map D.int, Kp B st (m + 1) 10 x := fun x hx => by
    rcases List.mem_cons.mp hx with rfl | hx
    · exact Kp.int (by have := v.lo; have := v.hi; omega) (by decide)
    · obtain ⟨p, hp, rfl⟩ := List.mem_map.mp hx
      exact Kp.int (by have := v.ps p hp; omega) (by decide)
  exact (Kp.tup (kl_of k1)).up (Nat.le_refl _) (by simp; omega)
theorem at_last {α : Type} {xs : List α} (h : 0 < xs.length) : atI xs (-1) = xs[xs.length - 1]? := by
  unfold atI ixN
  rw [if_neg (by decide), if_pos (by omega)]
  show xs[((-1 : Int) + (xs.length : Int)).toNat]? = _
  congr 1
  omega
end M2
set_option Elab.async false
set_option linter.all false
set_option maxRecDepth 100000
set_option maxHeartbeats 4000000
namespace M2
open PySem PySem.Spec PyProof.Rows L2
open Classical
variable [Tb]
theorem range_map {α β : Type} (f : α → β) (xs : List α) (d : α) : (List.range xs.length).map (fun i => f (xs.getD i d)) = xs.map f := by
  refine List.ext_getElem (by simp) fun i h1 h2 => ?_
  simp at h1
  simp [h1]
theorem fold_take {α β : Type} (f : β → α → β) (xs : List α) (a : β) {k : Nat} {x : α} (h : xs[k]? = some x) : (xs.take (k + 1)).foldl f a = f ((xs.take k).foldl f a) x := by
  rw [List.take_add_one, h, List.foldl_append]; rfl
theorem sl_tup {v : Nat} {xs : List D} {lo hi : Option (MM D)} {l1 h1 : Option Int} {en : En} {s : Sto} (hv : en[v]? = some (some (.tup xs))) (p1 : mPart lo en s = some (.ok l1, s)) (p2 : mPart hi en s = some (.ok h1, s)) : mSl (mVar v) lo hi en s = some (.ok (.tup (cutD xs l1 h1)), s) := by
  have f : fSl (.tup xs) l1 h1 s = some (.tup (cutD xs l1 h1), s) := by unfold fSl; rfl
  simp only [u_mSl, u_bnd, u_mVar, hv, Option.join_some, Option.map_some, p1, p2, u_stm, f]
theorem nd_tail {v : Nat} {n : Nd} {en : En} {s : Sto} (hv : en[v]? = some (some (nD n))) : mSl (mVar v) (some (ret (.int 1))) none en s = some (.ok (.tup (n.2.map D.int)), s) := by
  have e : nD n = .tup (.int n.1 :: n.2.map D.int) := rfl
  rw [e] at hv
  have := sl_tup (lo := some (ret (.int 1))) (hi := none) (l1 := some ((1 : Nat) : Int)) (h1 := none) hv (s := s) (by simp) (by simp)
  rwa [cutD_from] at this
theorem nd_head {v : Nat} {n : Nd} {en : En} {s : Sto} (hv : en[v]? = some (some (nD n))) : mOp fIx (mVar v) (ret (.int 0)) en s = some (.ok (.int n.1), s) := by
  have e : nD n = .tup (.int n.1 :: n.2.map D.int) := rfl
  rw [e] at hv
  exact ev_op (ev_var hv) rfl (by rw [u_ixT, atI_ok (xs := D.int n.1 :: n.2.map D.int) (i := 0) (x := D.int n.1) (Int.le_refl 0) rfl]; rfl)
end M2
set_option Elab.async false
set_option linter.all false
set_option maxRecDepth 100000
set_option maxHeartbeats 4000000
namespace M2
open PySem PySem.Spec PyProof.Rows L2
open Classical
variable [Tb]
/-! ### steps and contexts, of any value -/
abbrev rtD (xs : List Int) : D := .tup (xs.map D.int)
def sibB (as : List Int) (i : Int) : D → Bool
  | .tup ss => decide ((ss.length : Int) = as.getD i.toNat 0 - 1) && ss.all (treeB as)
  | _ => false
def opB (as : List Int) (o k s : D) : Bool := match o with
  | .int i => whB 0 (as.getD i.toNat 0 - 1) k && sibB as i s
  | _ => false
def stepB (as : List Int) : D → Bool
  | .tup [o, k, s] => whB 0 ((as.length : Int) - 1) o && opB as o k s
  | _ => false
def ctxB (as : List Int) : D → Bool
  | .tup ds => ds.all (stepB as)
  | _ => false
theorem stepB_n {as : List Int} {d : D} (h : tupB d = false) : stepB as d = false := by
  cases d <;> first | rfl | cases h
theorem sibB_n {as : List Int} {i : Int} {d : D} (h : tupB d = false) : sibB as i d = false := by
  cases d <;> first | rfl | cases h
theorem ctxB_n {as : List Int} {d : D} (h : tupB d = false) : ctxB as d = false := by
  cases d <;> first | rfl | cases h
theorem stepB_len {as : List Int} {ds : List D} (h : ds.length ≠ 3) : stepB as (.tup ds) = false := by
  match ds with
  | [] => rfl
  | [_] => rfl
  | [_, _] => rfl
  | [_, _, _] => exact absurd rfl h
  | _ :: _ :: _ :: _ :: _ => rfl
theorem ev_andF {a b : MM D} {en : En} {s s1 : Sto} (ha : a en s = some (.ok (.bl false), s1)) : mAndV a b en s = some (.ok (.bl false), s1) := by
  rw [u_mAndV]
  simp only [u_bnd, ha, u_lft, u_boolD, Option.map_some, Bool.false_eq_true, if_false, u_ret]
theorem isi_any {v : Nat} {d : D} {en : En} {s : Sto} (h : Ok d) (hv : en[v]? = some (some d)) : mBlt fIsi (mArgs [(mVar v), (ret (.ty "tuple"))]) en s = some (.ok (.bl (tupB d)), s) := by
  have e : mVar v en s = some (.ok d, s) := ev_var hv
  have e1 := u_tup (st := s) h
  rw [u_mBlt]
  simp only [u_bnd, u_mArgs1, u_mArgs0, e, u_ret, u_stm, e1, Option.map_some]
theorem r_stepG {as : List Int} (ha : Ar as) {d : D} (h : Ok d) (st : Sto) : ∃ j, f_is_step [rtD as, d] st = some (.ok (.bl (stepB as d)), st ++ j) := by
  obtain ⟨e1, he1⟩ : ∃ e1 : En, e1 = [some (rtD as), some d, none, none, none, none] := ⟨_, rfl⟩
  have e0 : envOf 6 [rtD as, d] = e1 := by rw [he1]; rfl
  have v1 : e1[1]? = some (some d) := by rw [he1]; rfl
  have is1 := isi_any (s := st) h v1
  cases ht : tupB d with
  | false =>
    rw [ht] at is1
    have c := ev_or (p := true) (q := true) (b := mB (mOp fNeA (mBlt fLen (mArgs [(mVar 1)])) (ret (.int 3)))) (s2 := st) (ev_notT is1) (fun e => by cases e) (fun _ => rfl)
    refine ⟨[], ?_⟩
    rw [List.append_nil, stepB_n ht]
    refine run_rt (e2 := e1) ?_
    rw [b_is_step, e0, s_if1 c]
  | true =>
    rw [ht] at is1
    obtain ⟨ds, rfl⟩ := tup_of ht
    obtain ⟨hx, hl⟩ := ok_tup h
    have ln : mB (mOp fNeA (mBlt fLen (mArgs [(mVar 1)])) (ret (.int 3))) e1 st = some (.ok (!decide ((ds.length : Int) = 3)), st) := ev_mB (ev_op (len_tup v1) rfl (by rw [u_neI]))
    have c := ev_or (p := false) (ev_notT is1) (fun _ => ln) (fun e => by cases e)
    rw [Bool.false_or] at c
    by_cases h3 : ds.length = 3
    · obtain ⟨o, k, s, rfl⟩ : ∃ o k s, ds = [o, k, s] := by
        match ds, h3 with
        | [o, k, s], _ => exact ⟨o, k, s, rfl⟩
      have ho := hx o (by simp)
      have hk := hx k (by simp)
      have hs := hx s (by simp)
      rw [show (!decide (([o, k, s].length : Int) = 3)) = false from rfl] at c
      obtain ⟨e2, he2⟩ : ∃ e2 : En, e2 = [some (rtD as), some (.tup [o, k, s]), some o, some k, some s, none] := ⟨_, rfl⟩
      have w0 : e2[0]? = some (some (rtD as)) := by rw [he2]; rfl
      have w2 : e2[2]? = some (some o) := by rw [he2]; rfl
      have w3 : e2[3]? = some (some k) := by rw [he2]; rfl
      have w4 : e2[4]? = some (some s) := by rw [he2]; rfl
      have start : ∀ kk, sSeq (sAsg (mVar 1) (setTup 3 [(setN 2), (setN 3), (setN 4)])) kk e1 st = kk e2 st := fun kk => s_asg (en1 := e2) (d := .tup [o, k, s]) (st' := st) (setTup 3 [(setN 2), (setN 3), (setN 4)]) (ev_var v1) (by rw [he1, he2]; simp [setTup, setT])
      have g1 : mCall 2 f_is_operator (mArgs [(mVar 0), (mVar 2)]) e2 st = some (.ok (.bl (whB 0 ((as.length : Int) - 1) o)), st) := ev_callM2 (ev_var w0) (ev_var w2) (by rw [r_operator ho, List.length_map])
      have key : ∃ j, (mAndV (mCall 2 f_is_operator (mArgs [(mVar 0), (mVar 2)])) (mAndV (mCall 3 f_is_between (mArgs [(mVar 3), (ret (.int 0)), (mOp fSubB (mOp fIx (mVar 0) (mVar 2)) (ret (.int 1)))])) (mAndV (mBlt fIsi (mArgs [(mVar 4), (ret (.ty "tuple"))])) (mAndV (mOp fEqA (mBlt fLen (mArgs [(mVar 4)])) (mOp fSubB (mOp fIx (mVar 0) (mVar 2)) (ret (.int 1)))) (mBlt fAll (mArgs [(mLc (mIter (mVar 4)) [5] (setN 5) (ret true) (mCall 2 f_is_tree (mArgs [(mVar 0), (mVar 5)])))])))))) e2 st = some (.ok (.bl (stepB as (.tup [o, k, s]))), st ++ j) := by
        have sd : stepB as (.tup [o, k, s]) = (whB 0 ((as.length : Int) - 1) o && opB as o k s) := rfl
        cases hw : whB 0 ((as.length : Int) - 1) o with
        | false =>
          rw [hw] at g1
          exact ⟨[], by rw [List.append_nil, sd, hw, Bool.false_and]; exact ev_andF g1⟩
        | true =>
          rw [hw] at g1
          obtain ⟨i, rfl, i0, i1⟩ := int_of hw
          have al : ∀ s : Sto, mOp fSubB (mOp fIx (mVar 0) (mVar 2)) (ret (.int 1)) e2 s = some (.ok (.int (as.getD i.toNat 0 - 1)), s) := fun s => ev_op (ev_op (ev_var w0) (ev_var w2) (by rw [u_ixT, ar_get i0 i1]; rfl)) rfl (by rw [u_subBi, u_sub])
          have g2 : mCall 3 f_is_between (mArgs [(mVar 3), (ret (.int 0)), (mOp fSubB (mOp fIx (mVar 0) (mVar 2)) (ret (.int 1)))]) e2 st = some (.ok (.bl (whB 0 (as.getD i.toNat 0 - 1) k)), st) := ev_callM3 (ev_var w3) rfl (al st) (r_between hk _ _ st)
          have sd2 : stepB as (.tup [.int i, k, s]) = (whB 0 (as.getD i.toNat 0 - 1) k && sibB as i s) := by rw [sd, hw, Bool.true_and]; rfl
          rw [sd2]
          cases hw2 : whB 0 (as.getD i.toNat 0 - 1) k with
          | false =>
            rw [hw2] at g2
            exact ⟨[], by rw [List.append_nil, Bool.false_and]; exact ev_andV g1 (ev_andF g2)⟩
          | true =>
            rw [hw2] at g2
            rw [Bool.true_and]
            have g3 := isi_any (s := st) hs w4
            cases ht4 : tupB s with
            | false =>
              rw [ht4] at g3
              exact ⟨[], by rw [List.append_nil, sibB_n ht4]; exact ev_andV g1 (ev_andV g2 (ev_andF g3))⟩
            | true =>
              rw [ht4] at g3
              obtain ⟨ss, rfl⟩ := tup_of ht4
              obtain ⟨hss, hls⟩ := ok_tup hs
              have g4 : mOp fEqA (mBlt fLen (mArgs [(mVar 4)])) (mOp fSubB (mOp fIx (mVar 0) (mVar 2)) (ret (.int 1))) e2 st = some (.ok (.bl (decide ((ss.length : Int) = as.getD i.toNat 0 - 1))), st) := ev_op (len_tup w4) (al st) (by rw [u_eqI])
              have sd3 : sibB as i (.tup ss) = (decide ((ss.length : Int) = as.getD i.toNat 0 - 1) && ss.all (treeB as)) := rfl
              rw [sd3]
              by_cases hn : (ss.length : Int) = as.getD i.toNat 0 - 1
              · rw [decide_eq_true hn] at g4 ⊢
                rw [Bool.true_and]
                obtain ⟨j, l⟩ := lc_bools (ds := ss) (B := treeB as) (mi := mIter (mVar 4)) (vs := [5]) (set := setN 5) (elt := mCall 2 f_is_tree (mArgs [(mVar 0), (mVar 5)])) (en := e2) (st := st) (ev_itr (ev_var w4) rfl) (by omega) (fun t ht s => by
                  obtain ⟨j, e⟩ := r_tree ha (hss t ht) (st ++ s)
                  exact ⟨[some (rtD as), some (.tup [.int i, k, .tup ss]), some (.int i), some k, some (.tup ss), some t], j, by rw [he2]; simp [wipeE], ev_callM2 (ev_var rfl) (ev_var rfl) e⟩)
                refine ⟨[(ss.map (treeB as)).map D.bl] ++ j, ?_⟩
                rw [← List.append_assoc]
                refine ev_andV g1 (ev_andV g2 (ev_andV g3 (ev_andV g4 (ev_blt1 l ?_))))
                rw [r_all (bs := ss.map (treeB as)) (by rw [List.append_assoc]; exact at0), List.all_map]; rfl
              · rw [decide_eq_false hn] at g4 ⊢
                rw [Bool.false_and]
                exact ⟨[], by rw [List.append_nil]; exact ev_andV g1 (ev_andV g2 (ev_andV g3 (ev_andF g4)))⟩
      obtain ⟨j, hj⟩ := key
      refine ⟨j, run_rt (e2 := e2) ?_⟩
      rw [b_is_step, e0, s_if0 c, start]
      exact s_ret hj
    · have n3 : (!decide ((ds.length : Int) = 3)) = true := by rw [decide_eq_false (by omega)]; rfl
      rw [n3] at c
      refine ⟨[], ?_⟩
      rw [List.append_nil, stepB_len h3]
      refine run_rt (e2 := e1) ?_
      rw [b_is_step, e0, s_if1 c]
theorem r_ctxG {as : List Int} (ha : Ar as) {d : D} (h : Ok d) (st : Sto) : ∃ j, f_is_context [rtD as, d] st = some (.ok (.bl (ctxB as d)), st ++ j) := by
  obtain ⟨j1, n1⟩ := r_need_ar ha st
  obtain ⟨s1, hs1⟩ : ∃ s1, s1 = st ++ j1 := ⟨_, rfl⟩
  rw [← hs1] at n1
  obtain ⟨e1, he1⟩ : ∃ e1 : En, e1 = [some (rtD as), some d, none] := ⟨_, rfl⟩
  have e0 : envOf 3 [rtD as, d] = e1 := by rw [he1]; rfl
  have v0 : e1[0]? = some (some (rtD as)) := by rw [he1]; rfl
  have v1 : e1[1]? = some (some d) := by rw [he1]; rfl
  have is1 := isi_any (s := s1) h v1
  cases ht : tupB d with
  | false =>
    rw [ht] at is1
    refine ⟨j1, ?_⟩
    rw [ctxB_n ht, ← hs1]
    refine run_rt (e2 := e1) ?_
    rw [b_is_context, e0, s_exp (ev_callM (ev_var v0) n1)]
    exact s_ret (ev_andF is1)
  | true =>
    rw [ht] at is1
    obtain ⟨ds, rfl⟩ := tup_of ht
    obtain ⟨hx, hl⟩ := ok_tup h
    obtain ⟨j, l⟩ := lc_bools (ds := ds) (B := stepB as) (mi := mIter (mVar 1)) (vs := [2]) (set := setN 2) (elt := mCall 2 f_is_step (mArgs [(mVar 0), (mVar 2)])) (en := e1) (st := s1) (ev_itr (ev_var v1) rfl) (by omega) (fun t ht s => by
      obtain ⟨j, e⟩ := r_stepG ha (hx t ht) (s1 ++ s)
      exact ⟨[some (rtD as), some (.tup ds), some t], j, by rw [he1]; simp [wipeE], ev_callM2 (ev_var rfl) (ev_var rfl) e⟩)
    refine ⟨j1 ++ [(ds.map (stepB as)).map D.bl] ++ j, ?_⟩
    rw [← List.append_assoc, ← List.append_assoc, ← hs1]
    refine run_rt (e2 := e1) ?_
    rw [b_is_context, e0, s_exp (ev_callM (ev_var v0) n1)]
    refine s_ret (ev_andV is1 (ev_blt1 l ?_))
    rw [r_all (bs := ds.map (stepB as)) (by rw [List.append_assoc]; exact at0), List.all_map]; rfl
end M2
set_option Elab.async false
set_option linter.all false
set_option maxRecDepth 100000
set_option maxHeartbeats 4000000
namespace M2
open PySem PySem.Spec PyProof.Rows L2
open Classical
variable [Tb]
/-! ### what is no step -/
def Bd (as : List Int) (d : D) : Prop := Ok d ∧ stepB as d = false
theorem ev_ac {m : MM D} {ms : List (MM D)} {d : D} {ds : List D} {en : En} {s s1 s2 : Sto} (hm : m en s = some (.ok d, s1)) (h : mArgs ms en s1 = some (.ok ds, s2)) : mArgs (m :: ms) en s = some (.ok (d :: ds), s2) := by
  simp only [u_mArgs1, u_bnd, hm, h, u_ret]
theorem ev_lstG {ms : List (MM D)} {ds : List D} {en : En} {s s1 : Sto} (h : mArgs ms en s = some (.ok ds, s1)) (hl : ds.length < 100000) : mLst ms en s = some (.ok (.mu s1.length), s1 ++ [ds]) := by
  simp only [u_mLst, u_bnd, h, u_mNewL, u_stm, hl, if_true, Option.map_some]
theorem ev_tupG {ms : List (MM D)} {ds : List D} {en : En} {s s1 : Sto} (h : mArgs ms en s = some (.ok ds, s1)) (hl : ds.length < 100000) : mTup ms en s = some (.ok (.tup ds), s1) := by
  simp only [u_mTup, u_bnd, h, u_lft, hl, if_true, Option.map_some]
theorem ev_nil {en : En} {s : Sto} : mArgs [] en s = some (.ok [], s) := rfl
theorem ev_t3 {a b c : MM D} {x y z : D} {en : En} {s s1 s2 s3 : Sto} (ha : a en s = some (.ok x, s1)) (hb : b en s1 = some (.ok y, s2)) (hc : c en s2 = some (.ok z, s3)) : mTup [a, b, c] en s = some (.ok (.tup [x, y, z]), s3) := ev_tup3' ha hb hc
theorem ev_catT {a b : MM D} {xs ys : List D} {en : En} {s s1 s2 : Sto} (ha : a en s = some (.ok (.tup xs), s1)) (hb : b en s1 = some (.ok (.tup ys), s2)) (hl : xs.length + ys.length < 100000) : mOp fAddB a b en s = some (.ok (.tup (xs ++ ys)), s2) := by
  refine ev_op ha hb ?_
  rw [u_addBt, u_addT, if_pos hl]
/-- a list and more -/
theorem ev_more {v l : Nat} {xs ds : List D} {ms : List (MM D)} {en : En} {s s1 : Sto} (hv : en[v]? = some (some (.mu l))) (hl : s[l]? = some xs) (h : mArgs ms en s = some (.ok ds, s1)) (hj : ∃ j, s1 = s ++ j) (f1 : xs.length ≤ 100) (f2 : ds.length ≤ 100) :
    ∃ (s2 : Sto) (l2 : Nat), mOp fAddB (mVar v) (mLst ms) en s = some (.ok (.mu l2), s2) ∧ s2[l2]? = some (xs ++ ds) ∧ ∃ j, s2 = s ++ j := by
  obtain ⟨j, hj⟩ := hj
  have e := ev_lstG h (by omega)
  have q1 : (s1 ++ [ds])[l]? = some xs := by rw [hj]; exact at_app (at_app hl _) _
  have q2 : (s1 ++ [ds])[s1.length]? = some ds := at0
  refine ⟨s1 ++ [ds] ++ [xs ++ ds], (s1 ++ [ds]).length, ev_op (ev_var hv) e (add_mu q1 q2 (by omega)), at0, j ++ [ds] ++ [xs ++ ds], ?_⟩
  rw [hj]; simp
theorem ok1 {x : D} (h : Ok x) : Ok (.tup [x]) := .tup (fun y hy => by rw [List.mem_singleton.mp hy]; exact h) (by simp)
theorem ok3' {x y z : D} (h1 : Ok x) (h2 : Ok y) (h3 : Ok z) : Ok (.tup [x, y, z]) := .tup (fun w hw => by
  simp only [List.mem_cons, List.not_mem_nil, or_false] at hw
  rcases hw with rfl | rfl | rfl
  · exact h1
  · exact h2
  · exact h3) (by simp)
theorem ok_cat {xs ys : List D} (h1 : Ok (.tup xs)) (h2 : Ok (.tup ys)) (hl : xs.length + ys.length ≤ 1000) : Ok (.tup (xs ++ ys)) := .tup (fun w hw => by
  rcases List.mem_append.mp hw with h | h
  · exact (ok_tup h1).1 w h
  · exact (ok_tup h2).1 w h) (by simp; omega)
theorem idx0 {as : List Int} (h0 : 0 ∈ as) : as[as.idxOf 0]? = some 0 := by
  have := List.idxOf_lt_length_of_mem h0
  rw [List.getElem?_eq_getElem this, List.getElem_idxOf]
theorem ev_idx0 {as : List Int} (h0 : 0 ∈ as) {v : Nat} {en : En} {s : Sto} (hv : en[v]? = some (some (.tpn as))) : mIdxT (mVar v) (ret (.int 0)) en s = some (.ok (.int (as.idxOf 0 : Nat)), s) := by
  have e : mVar v en s = some (.ok (.tpn as), s) := ev_var hv
  unfold mIdxT
  simp only [u_bnd, e, u_lft, tpnD, Option.map_some, u_mArgs1, u_mArgs0, u_ret, ixI, if_pos h0]
theorem ev_fg {v : Nat} {as : List Int} {en : En} {s : Sto} (hv : en[v]? = some (some (.tpn as))) : mFg (mVar v) en s = some (.ok (rtD as), s) := by
  have e : mVar v en s = some (.ok (.tpn as), s) := ev_var hv
  unfold mFg
  simp only [u_bnd, e, u_ret]
  rfl
theorem wh_no {lo hi i : Int} (h : i < lo ∨ hi < i) : whB lo hi (.int i) = false := by
  show (decide (lo ≤ i) && decide (i ≤ hi)) = false
  rcases h with h | h
  · rw [decide_eq_false (by omega)]; rfl
  · rw [decide_eq_false (show ¬ i ≤ hi by omega), Bool.and_false]
theorem step_def (as : List Int) (o : Int) (k s : D) : stepB as (.tup [.int o, k, s]) = (whB 0 ((as.length : Int) - 1) (.int o) && (whB 0 (as.getD o.toNat 0 - 1) k && sibB as o s)) := rfl
theorem sib_def (as : List Int) (o : Int) (ss : List D) : sibB as o (.tup ss) = (decide ((ss.length : Int) = as.getD o.toNat 0 - 1) && ss.all (treeB as)) := rfl
theorem step_sib {as : List Int} {o : Int} {k s : D} (h : sibB as o s = false) : stepB as (.tup [.int o, k, s]) = false := by
  rw [step_def, h, Bool.and_false, Bool.and_false]
theorem step_pl {as : List Int} {o : Int} {k s : D} (h : whB 0 (as.getD o.toNat 0 - 1) k = false) : stepB as (.tup [.int o, k, s]) = false := by
  rw [step_def, h, Bool.false_and, Bool.and_false]
theorem step_op {as : List Int} {o k s : D} (h : whB 0 ((as.length : Int) - 1) o = false) : stepB as (.tup [o, k, s]) = false := by
  show (whB 0 ((as.length : Int) - 1) o && opB as o k s) = false
  rw [h, Bool.false_and]
theorem sib_len {as : List Int} {o : Int} {ss : List D} (h : (ss.length : Int) ≠ as.getD o.toNat 0 - 1) : sibB as o (.tup ss) = false := by
  rw [sib_def, decide_eq_false h, Bool.false_and]
theorem sib_bad {as : List Int} {o : Int} {ss : List D} {x : D} (hx : x ∈ ss) (h : treeB as x = false) : sibB as o (.tup ss) = false := by
  rw [sib_def]
  have : ss.all (treeB as) = false := by
    rw [List.all_eq_false]
    exact ⟨x, hx, by rw [h]; decide⟩
  rw [this, Bool.and_false]
theorem ev_mul {m n : MM D} {x : D} {k : Nat} {en : En} {s : Sto} (hm : m en s = some (.ok (.tup [x]), s)) (hn : n en s = some (.ok (.int (k : Int)), s)) (hk : k ≤ 1) : mOp fMulC m n en s = some (.ok (.tup (List.replicate k x)), s) := by
  refine ev_op hm hn ?_
  unfold fMulC
  simp only []
  by_cases h0 : k = 0
  · subst h0
    rw [if_pos ⟨rfl, by simp⟩]; rfl
  · have : k = 1 := by omega
    subst this
    rw [if_neg (fun h => by cases h.1)]
    unfold fMulB
    simp
theorem ev_str {m : MM D} {i : Int} {en : En} {s s1 : Sto} (hm : m en s = some (.ok (.int i), s1)) (h : i.natAbs < 100) : mBlt fStr (mArgs [m]) en s = some (.ok (.str (toString i)), s1) := by
  refine ev_blt1 hm ?_
  unfold fStr
  simp only []
  rw [if_pos]
  by_cases h0 : i.natAbs = 0
  · rw [h0]; decide
  · have := (Nat.log2_lt h0).mpr (show i.natAbs < 2 ^ 7 by omega)
    omega
theorem ev_len {v : Nat} {ds : List D} {en : En} {s : Sto} (h : en[v]? = some (some (.tup ds))) : mBlt fLen (mArgs [(mVar v)]) en s = some (.ok (.int (ds.length : Nat)), s) := len_tup h
theorem s_ifG {en en2 : En} {st st' s2 : Sto} {c : MM Bool} {a b : MS} (h : c en st = some (.ok true, st')) (ha : a en st' = some (.nx, en2, s2)) : sSeq (sIf c a sNx) b en st = b en2 s2 := by
  rw [u_sSeq, u_sIf, u_sEx, h]
  simp only [if_true, ha]
theorem r_odds {as : List Int} (ha : Ar as) (h0 : 0 ∈ as) {c : Sp} (hc : Sn as c) (st : Sto) :
    ∃ (l : Nat) (items : List D) (j : Sto), f__law_odd_ones [.tpn as, spD c] st = some (.ok (.mu l), st ++ j) ∧ (st ++ j)[l]? = some items ∧ items.length ≤ 100 ∧ ∀ d ∈ items, Bd as d := by
  obtain ⟨o, k, ts⟩ := c
  have o0 : 0 ≤ o := hc.lo
  have o1 : o < as.length := hc.hi
  have oa : as[o.toNat]? = some ((ts.length : Int) + 1) := hc.ar
  have kl : k ≤ ts.length := hc.pl
  have hv : ∀ t ∈ ts, Vt as t ∧ t.length ≤ 3 := hc.vt
  have al := ha.2.1
  have tl : ts.length ≤ 1 := by have := (ha.2.2 _ (List.mem_of_getElem? oa)).2; omega
  have og : as.getD o.toNat 0 = (ts.length : Int) + 1 := by rw [List.getD_eq_getElem?_getD, oa]; rfl
  obtain ⟨Sb, hSb⟩ : ∃ Sb, Sb = ts.map tD := ⟨_, rfl⟩
  have Sl : Sb.length = ts.length := by rw [hSb, List.length_map]
  have okS : Ok (.tup Sb) := by
    rw [hSb]
    exact .tup (fun x hx => by
      obtain ⟨t, ht, rfl⟩ := List.mem_map.mp hx
      exact tr_ok ha (hv t ht).1.at' (by have := (hv t ht).2; omega)) (by simp; omega)
  have sp : spD (o, k, ts) = .tup [.int o, .int (k : Int), .tup Sb] := by rw [hSb]; rfl
  rw [sp]
  obtain ⟨z, hz⟩ : ∃ z : Int, z = ((as.idxOf 0 : Nat) : Int) := ⟨_, rfl⟩
  have zl : as.idxOf 0 < as.length := List.idxOf_lt_length_of_mem h0
  have zg : as.getD z.toNat 0 = 0 := by rw [hz, Int.toNat_natCast, List.getD_eq_getElem?_getD, idx0 h0]; rfl
  obtain ⟨G, hG⟩ : ∃ G, G = D.tup [.int o, .int (k : Int), .tup Sb] := ⟨_, rfl⟩
  rw [← hG]
  have e0 : envOf 8 [D.tpn as, G] = [some (.tpn as), some G, none, none, none, none, none, none] := rfl
  obtain ⟨L, hL⟩ : ∃ L : D, L = .tup [.tup [.int z]] := ⟨_, rfl⟩
  have okL : Ok L := by rw [hL]; exact ok1 (ok1 (.int _))
  have trZ : treeB as (.tup [.int z]) = false := rfl
  obtain ⟨E, hE⟩ : ∃ E : D → Option D → En, E = fun x6 x7 => [some (.tpn as), some G, some (.int o), some (.int (k : Int)), some (.tup Sb), some L, some x6, x7] := ⟨_, rfl⟩
  have w0 : ∀ x y, (E x y)[0]? = some (some (.tpn as)) := fun x y => by rw [hE]; rfl
  have w1 : ∀ x y, (E x y)[1]? = some (some (.tup [.int o, .int (k : Int), .tup Sb])) := fun x y => by rw [hE, ← hG]; rfl
  have w2 : ∀ x y s, mVar 2 (E x y) s = some (.ok (.int o), s) := fun x y s => ev_var (by rw [hE]; rfl)
  have w3 : ∀ x y s, mVar 3 (E x y) s = some (.ok (.int (k : Int)), s) := fun x y s => ev_var (by rw [hE]; rfl)
  have w4 : ∀ x y, (E x y)[4]? = some (some (.tup Sb)) := fun x y => by rw [hE]; rfl
  have u4 : ∀ x y s, mVar 4 (E x y) s = some (.ok (.tup Sb), s) := fun x y s => ev_var (w4 x y)
  have w5 : ∀ x y s, mVar 5 (E x y) s = some (.ok L, s) := fun x y s => ev_var (by rw [hE]; rfl)
  have w6 : ∀ x y, (E x y)[6]? = some (some x) := fun x y => by rw [hE]; rfl
  have len4 : ∀ x y s, mBlt fLen (mArgs [(mVar 4)]) (E x y) s = some (.ok (.int (ts.length : Nat)), s) := fun x y s => by rw [ev_len (w4 x y), Sl]
  have z0 : ∀ x y s, mIdxT (mVar 0) (ret (.int 0)) (E x y) s = some (.ok (.int z), s) := fun x y s => by rw [hz]; exact ev_idx0 h0 (w0 x y)
  -- what every list begins with
  obtain ⟨en2, hen2⟩ : ∃ en2 : En, en2 = [some (.tpn as), some G, some (.int o), some (.int (k : Int)), some (.tup Sb), some L, none, none] := ⟨_, rfl⟩
  have a0 : en2[0]? = some (some (.tpn as)) := by rw [hen2]; rfl
  have a1 : en2[1]? = some (some (.tup [.int o, .int (k : Int), .tup Sb])) := by rw [hen2, ← hG]; rfl
  obtain ⟨s1, hs1⟩ : ∃ s1, s1 = st ++ [[D.int o, .int (k : Int), .tup Sb]] := ⟨_, rfl⟩
  have tailG : ∀ s : Sto, mSl (mVar 1) (some (ret (.int 1))) none en2 s = some (.ok (.tup [.int (k : Int), .tup Sb]), s) := fun s => by
    rw [sl_tup a1 (l1 := some 1) rfl rfl]; rfl
  obtain ⟨I1, hI1⟩ : ∃ I1 : List D, I1 = [.non, .mu st.length, .tup [.int o, .int (k : Int)], .tup [.int o, .int (k : Int), .tup Sb, .int 0], .tup [.int (as.length : Nat), .int (k : Int), .tup Sb], .tup [.int (-1), .int (k : Int), .tup Sb], .tup [.non, .int (k : Int), .tup Sb]] := ⟨_, rfl⟩
  have lenA : ∀ s : Sto, mBlt fLen (mArgs [(mFg (mVar 0))]) en2 s = some (.ok (.int (as.length : Nat)), s) := fun s => ev_blt1 (ev_fg a0) (by show some (D.int ((as.map D.int).length : Nat), s) = _; rw [List.length_map])
  have l1 : mLst [(ret .non), (mBlt fList (mArgs [(mVar 1)])), (mSl (mVar 1) none (some (ret (.int 2)))), (mOp fAddB (mVar 1) (mTup [(ret (.int 0))])), (mOp fAddB (mTup [(mBlt fLen (mArgs [(mFg (mVar 0))]))]) (mSl (mVar 1) (some (ret (.int 1))) none)), (mOp fAddB (mTup [(mNeg (ret (.int 1)))]) (mSl (mVar 1) (some (ret (.int 1))) none)), (mOp fAddB (mTup [(ret .non)]) (mSl (mVar 1) (some (ret (.int 1))) none))] en2 st = some (.ok (.mu s1.length), s1 ++ [I1]) := by
    refine ev_lstG ?_ (by rw [hI1]; simp)
    rw [hI1]
    refine ev_ac rfl (ev_ac (s1 := s1) (ev_blt1 (ev_var a1) (by rw [hs1]; rfl)) (ev_ac (s1 := s1) ?_ (ev_ac (s1 := s1) (ev_catT (ev_var a1) (t1 rfl) (by simp)) (ev_ac (s1 := s1) (ev_catT (t1 (lenA s1)) (tailG s1) (by simp)) (ev_ac (s1 := s1) (ev_catT (t1 (x := .int (-1)) rfl) (tailG s1) (by simp)) (ev_ac (s1 := s1) (ev_catT (t1 rfl) (tailG s1) (by simp)) ev_nil))))))
    rw [sl_tup a1 (h1 := some 2) rfl rfl]; rfl
  have q1 : (s1 ++ [I1])[s1.length]? = some I1 := at0
  obtain ⟨t1', ht1⟩ : ∃ t1', t1' = s1 ++ [I1] := ⟨_, rfl⟩
  rw [← ht1] at l1 q1
  have j1 : ∃ j, t1' = st ++ j := ⟨[[D.int o, .int (k : Int), .tup Sb]] ++ [I1], by rw [ht1, hs1, List.append_assoc]⟩
  -- other places
  obtain ⟨I2, hI2⟩ : ∃ I2 : List D, I2 = [.tup [.int o, .int ((ts.length : Int) + 1), .tup Sb], .tup [.int o, .int (-1), .tup Sb], .tup [.int o, .non, .tup Sb]] := ⟨_, rfl⟩
  obtain ⟨t2, p2, l2, q2, j2⟩ := ev_more (v := 6) (xs := I1) (ds := I2) (ms := [(mTup [(mVar 2), (mOp fIx (mFg (mVar 0)) (mVar 2)), (mVar 4)]), (mTup [(mVar 2), (mNeg (ret (.int 1))), (mVar 4)]), (mTup [(mVar 2), (ret .non), (mVar 4)])]) (w6 (.mu s1.length) none) q1 (by
      rw [hI2]
      exact ev_ac (ev_t3 (w2 _ _ _) (ev_op (ev_fg (w0 _ _)) (w2 _ _ _) (by rw [u_ixT, ar_get o0 (by omega), og]; rfl)) (u4 _ _ _)) (ev_ac (ev_t3 (w2 _ _ _) (y := .int (-1)) rfl (u4 _ _ _)) (ev_ac (ev_t3 (w2 _ _ _) rfl (u4 _ _ _)) ev_nil))) ⟨[], by simp⟩ (by rw [hI1]; simp) (by rw [hI2]; simp)
  -- other siblings
  obtain ⟨I3, hI3⟩ : ∃ I3 : List D, I3 = [.tup [.int o, .int (k : Int), .mu t2.length], .tup [.int o, .int (k : Int), .tup (Sb ++ [L])], .tup [.int o, .int (k : Int), L]] := ⟨_, rfl⟩
  obtain ⟨t3, p3, l3, q3, j3⟩ := ev_more (v := 6) (xs := I1 ++ I2) (ds := I3) (s1 := t2 ++ [Sb]) (ms := [(mTup [(mVar 2), (mVar 3), (mBlt fList (mArgs [(mVar 4)]))]), (mTup [(mVar 2), (mVar 3), (mOp fAddB (mVar 4) (mTup [(mVar 5)]))]), (mTup [(mVar 2), (mVar 3), (mVar 5)])]) (w6 (.mu p2) none) q2 (by
      rw [hI3]
      exact ev_ac (ev_t3 (w2 _ _ _) (w3 _ _ _) (ev_blt1 (u4 _ _ _) rfl)) (ev_ac (ev_t3 (w2 _ _ _) (w3 _ _ _) (ev_catT (u4 _ _ _) (t1 (w5 _ _ _)) (by simp [Sl]; omega))) (ev_ac (ev_t3 (w2 _ _ _) (w3 _ _ _) (w5 _ _ _)) ev_nil))) ⟨[Sb], rfl⟩ (by rw [hI1, hI2]; simp) (by rw [hI3]; simp)
  obtain ⟨I4, hI4⟩ : ∃ I4 : List D, I4 = [.tup [.int o, .int (k : Int), .tup [L, L]], .tup [.int o, .int (k : Int), .non], .tup [.int z, .int 0, .tup []]] := ⟨_, rfl⟩
  obtain ⟨t4, p4, l4, q4, j4⟩ := ev_more (v := 6) (xs := I1 ++ I2 ++ I3) (ds := I4) (ms := [(mTup [(mVar 2), (mVar 3), (mTup [(mVar 5), (mVar 5)])]), (mTup [(mVar 2), (mVar 3), (ret .non)]), (mTup [(mIdxT (mVar 0) (ret (.int 0))), (ret (.int 0)), (mTup [])])]) (w6 (.mu p3) none) q3 (by
      rw [hI4]
      exact ev_ac (ev_t3 (w2 _ _ _) (w3 _ _ _) (ev_tupG (ds := [L, L]) (ev_ac (w5 _ _ _) (ev_ac (w5 _ _ _) ev_nil)) (by simp))) (ev_ac (ev_t3 (w2 _ _ _) (w3 _ _ _) rfl) (ev_ac (ev_t3 (z0 _ _ _) rfl (ev_tupG (ds := []) ev_nil (by decide))) ev_nil))) ⟨[], by simp⟩ (by rw [hI1, hI2, hI3]; simp) (by rw [hI4]; simp)
  obtain ⟨I5, hI5⟩ : ∃ I5 : List D, I5 = [.tup [.int o, .int (k : Int), .tup (List.replicate ts.length L ++ [.non])], .tup [.str (toString o), .int (k : Int), .tup Sb]] := ⟨_, rfl⟩
  obtain ⟨t5, p5, l5, q5, j5⟩ := ev_more (v := 6) (xs := I1 ++ I2 ++ I3 ++ I4) (ds := I5) (ms := [(mTup [(mVar 2), (mVar 3), (mOp fAddB (mOp fMulC (mTup [(mVar 5)]) (mBlt fLen (mArgs [(mVar 4)]))) (mTup [(ret .non)]))]), (mTup [(mBlt fStr (mArgs [(mVar 2)])), (mVar 3), (mVar 4)])]) (w6 (.mu p4) none) q4 (by
      rw [hI5]
      exact ev_ac (ev_t3 (w2 _ _ _) (w3 _ _ _) (ev_catT (ev_mul (t1 (w5 _ _ _)) (len4 _ _ _) tl) (t1 rfl) (by simp; omega))) (ev_ac (ev_t3 (ev_str (w2 _ _ _) (by omega)) (w3 _ _ _) (u4 _ _ _)) ev_nil)) ⟨[], by simp⟩ (by rw [hI1, hI2, hI3, hI4]; simp) (by rw [hI5]; simp)
  obtain ⟨J5, hJ5⟩ : ∃ J5, J5 = I1 ++ I2 ++ I3 ++ I4 ++ I5 := ⟨_, rfl⟩
  rw [← hJ5] at q5
  have J5l : J5.length = 18 := by rw [hJ5, hI1, hI2, hI3, hI4, hI5]; rfl
  have j25 : ∃ j, t5 = st ++ j := by
    obtain ⟨a, ha⟩ := j1
    obtain ⟨b, hb⟩ := j2
    obtain ⟨c, hc⟩ := j3
    obtain ⟨d, hd⟩ := j4
    obtain ⟨e, he⟩ := j5
    exact ⟨a ++ b ++ c ++ d ++ e, by rw [he, hd, hc, hb, ha]; simp⟩
  have okI : ∀ i : Int, Ok (.int i) := fun i => .int i
  have kk := okI (k : Int)
  have bd : ∀ d ∈ J5, Bd as d := fun d hd => by
    rw [hJ5, hI1, hI2, hI3, hI4, hI5] at hd
    simp only [List.cons_append, List.nil_append, List.mem_cons, List.not_mem_nil, or_false] at hd
    rcases hd with rfl | rfl | rfl | rfl | rfl | rfl | rfl | rfl | rfl | rfl | rfl | rfl | rfl | rfl | rfl | rfl | rfl | rfl
    · exact ⟨.non, rfl⟩
    · exact ⟨.mu _, rfl⟩
    · exact ⟨ok_cat (ok1 (okI o)) (ok1 kk) (by simp), rfl⟩
    · exact ⟨ok_cat (ok3' (okI o) kk okS) (ok1 (okI 0)) (by simp), rfl⟩
    · exact ⟨ok3' (okI _) kk okS, step_op (wh_no (.inr (by omega)))⟩
    · exact ⟨ok3' (okI _) kk okS, step_op (wh_no (.inl (by omega)))⟩
    · exact ⟨ok3' .non kk okS, step_op rfl⟩
    · exact ⟨ok3' (okI _) (okI _) okS, step_pl (by rw [og]; exact wh_no (.inr (by omega)))⟩
    · exact ⟨ok3' (okI _) (okI _) okS, step_pl (wh_no (.inl (by omega)))⟩
    · exact ⟨ok3' (okI _) .non okS, step_pl rfl⟩
    · exact ⟨ok3' (okI _) kk (.mu _), step_sib rfl⟩
    · exact ⟨ok3' (okI _) kk (ok_cat okS (ok1 okL) (by simp [Sl]; omega)), step_sib (sib_len (by rw [og]; simp [Sl]; omega))⟩
    · refine ⟨ok3' (okI _) kk okL, step_sib ?_⟩
      rw [hL]
      exact sib_bad (x := .tup [.int z]) (by simp) trZ
    · exact ⟨ok3' (okI _) kk (ok_cat (ok1 okL) (ok1 okL) (by simp)), step_sib (sib_len (by rw [og]; simp; omega))⟩
    · exact ⟨ok3' (okI _) kk .non, step_sib rfl⟩
    · exact ⟨ok3' (okI _) (okI _) (.tup (fun x hx => by cases hx) (by simp)), step_pl (by rw [zg]; exact wh_no (.inr (by omega)))⟩
    · exact ⟨ok3' (okI _) kk (.tup (fun x hx => by
        rcases List.mem_append.mp hx with h | h
        · rw [(List.mem_replicate.mp h).2]; exact okL
        · rw [List.mem_singleton.mp h]; exact .non) (by simp; omega)), step_sib (sib_len (by rw [og]; simp; omega))⟩
    · exact ⟨ok3' (.str _) kk okS, step_op rfl⟩
  -- behind them, of operators with two arguments
  have c : ∀ x, mB (mOp fEqA (mBlt fLen (mArgs [(mVar 4)])) (ret (.int 1))) (E x none) t5 = some (.ok (decide ((ts.length : Int) = 1)), t5) := fun x => ev_mB (ev_op (len4 _ _ _) rfl (by rw [u_eqI]))
  obtain ⟨B0, hB0⟩ : ∃ B0, B0 = D.tup [.int (as.length : Nat)] := ⟨_, rfl⟩
  have key : ∃ (J : List D) (t6 : Sto) (p6 : Nat) (x7 : Option D), (∀ kk : MS, sSeq (sIf (mB (mOp fEqA (mBlt fLen (mArgs [(mVar 4)])) (ret (.int 1)))) (sSeq (sAsg (mTup [(mBlt fLen (mArgs [(mFg (mVar 0))]))]) (setN 7))
      (sSeq (sAsg (mOp fAddB (mVar 6) (mLst [(mTup [(mVar 2), (mVar 3), (mTup [])]), (mTup [(mVar 2), (mVar 3), (mTup [(mTup [])])]), (mTup [(mVar 2), (mVar 3), (mTup [(mTup [(mVar 7)])])])])) (setN 6))
      (sSeq (sAsg (mOp fAddB (mVar 6) (mLst [(mTup [(mVar 2), (mVar 3), (mTup [(mBlt fList (mArgs [(mVar 5)]))])]), (mTup [(mVar 2), (mVar 3), (mTup [(mTup [(mTup [(mVar 2), (ret (.int 0)), (ret (.int 0))])])])])])) (setN 6))
      sNx))) sNx) kk (E (.mu p5) none) t5 = kk (E (.mu p6) x7) t6) ∧ t6[p6]? = some J ∧ (∃ j, t6 = st ++ j) ∧ J.length ≤ 23 ∧ ∀ d ∈ J, Bd as d := by
    by_cases h1 : ts.length = 1
    · have sA : ∀ s, mTup [(mBlt fLen (mArgs [(mFg (mVar 0))]))] (E (.mu p5) none) s = some (.ok B0, s) := fun s => by
        rw [hB0]
        exact t1 (ev_blt1 (ev_fg (w0 _ _)) (by show some (D.int ((as.map D.int).length : Nat), s) = _; rw [List.length_map]))
      have w7 : ∀ x s, mVar 7 (E x (some B0)) s = some (.ok B0, s) := fun x s => ev_var (by rw [hE]; rfl)
      obtain ⟨K1, hK1⟩ : ∃ K1 : List D, K1 = [.tup [.int o, .int (k : Int), .tup []], .tup [.int o, .int (k : Int), .tup [.tup []]], .tup [.int o, .int (k : Int), .tup [.tup [B0]]]] := ⟨_, rfl⟩
      obtain ⟨t6, p6, l6, q6, j6⟩ := ev_more (v := 6) (xs := J5) (ds := K1) (ms := [(mTup [(mVar 2), (mVar 3), (mTup [])]), (mTup [(mVar 2), (mVar 3), (mTup [(mTup [])])]), (mTup [(mVar 2), (mVar 3), (mTup [(mTup [(mVar 7)])])])]) (w6 (.mu p5) (some B0)) q5 (by
          rw [hK1]
          exact ev_ac (ev_t3 (w2 _ _ _) (w3 _ _ _) (ev_tupG (ds := []) ev_nil (by decide))) (ev_ac (ev_t3 (w2 _ _ _) (w3 _ _ _) (t1 (ev_tupG (ds := []) ev_nil (by decide)))) (ev_ac (ev_t3 (w2 _ _ _) (w3 _ _ _) (t1 (t1 (w7 _ _)))) ev_nil))) ⟨[], by simp⟩ (by omega) (by rw [hK1]; simp)
      obtain ⟨K2, hK2⟩ : ∃ K2 : List D, K2 = [.tup [.int o, .int (k : Int), .tup [.mu t6.length]], .tup [.int o, .int (k : Int), .tup [.tup [.tup [.int o, .int 0, .int 0]]]]] := ⟨_, rfl⟩
      obtain ⟨t7, p7, l7, q7, j7⟩ := ev_more (v := 6) (xs := J5 ++ K1) (ds := K2) (s1 := t6 ++ [[.tup [.int z]]]) (ms := [(mTup [(mVar 2), (mVar 3), (mTup [(mBlt fList (mArgs [(mVar 5)]))])]), (mTup [(mVar 2), (mVar 3), (mTup [(mTup [(mTup [(mVar 2), (ret (.int 0)), (ret (.int 0))])])])])]) (w6 (.mu p6) (some B0)) q6 (by
          rw [hK2]
          exact ev_ac (ev_t3 (w2 _ _ _) (w3 _ _ _) (t1 (ev_blt1 (w5 _ _ _) (by rw [hL]; rfl)))) (ev_ac (ev_t3 (w2 _ _ _) (w3 _ _ _) (t1 (t1 (ev_t3 (w2 _ _ _) rfl rfl)))) ev_nil)) ⟨_, rfl⟩ (by rw [List.length_append, J5l, hK1]; simp) (by rw [hK2]; simp)
      refine ⟨J5 ++ K1 ++ K2, t7, p7, some B0, fun kk => ?_, q7, ?_, by rw [List.length_append, List.length_append, J5l, hK1, hK2]; simp, fun d hd => ?_⟩
      · have c1 := c (.mu p5)
        rw [decide_eq_true (by omega)] at c1
        refine s_ifG c1 ?_
        rw [s_asg (en1 := E (.mu p5) (some B0)) (d := B0) (st' := t5) (setN 7) (sA t5) (by rw [hE]; simp), s_asg (en1 := E (.mu p6) (some B0)) (d := .mu p6) (st' := t6) (setN 6) l6 (by rw [hE]; simp),
          s_asg (en1 := E (.mu p7) (some B0)) (d := .mu p7) (st' := t7) (setN 6) l7 (by rw [hE]; simp), u_sNx]
      · obtain ⟨a, ha⟩ := j25
        obtain ⟨b, hb⟩ := j6
        obtain ⟨c, hc⟩ := j7
        exact ⟨a ++ b ++ c, by rw [hc, hb, ha]; simp⟩
      · rcases List.mem_append.mp hd with hd | hd
        · rcases List.mem_append.mp hd with hd | hd
          · exact bd d hd
          · rw [hK1] at hd
            simp only [List.mem_cons, List.not_mem_nil, or_false] at hd
            have okB : Ok B0 := by rw [hB0]; exact ok1 (okI _)
            have ok0 : Ok (.tup []) := .tup (fun x hx => by cases hx) (by simp)
            rcases hd with rfl | rfl | rfl
            · exact ⟨ok3' (okI _) kk ok0, step_sib (sib_len (by rw [og]; simp; omega))⟩
            · exact ⟨ok3' (okI _) kk (ok1 ok0), step_sib (sib_bad (x := .tup []) (by simp) rfl)⟩
            · refine ⟨ok3' (okI _) kk (ok1 (ok1 okB)), step_sib (sib_bad (x := .tup [B0]) (by simp) ?_)⟩
              have nb : nodeB as 0 B0 = false := by
                rw [hB0, nodeB_t, wh_no (.inr (by omega)), Bool.false_and]
              show (nodeB as 0 B0 && true) = false
              rw [nb]; rfl
        · rw [hK2] at hd
          simp only [List.mem_cons, List.not_mem_nil, or_false] at hd
          rcases hd with rfl | rfl
          · exact ⟨ok3' (okI _) kk (ok1 (.mu _)), step_sib (sib_bad (x := .mu t6.length) (by simp) rfl)⟩
          · refine ⟨ok3' (okI _) kk (ok1 (ok1 (ok3' (okI _) (okI _) (okI _)))), step_sib (sib_bad (x := .tup [.tup [.int o, .int 0, .int 0]]) (by simp) ?_)⟩
            have nb : nodeB as 0 (.tup [.int o, .int 0, .int 0]) = false := by
              rw [nodeB_t]
              have : ([D.int 0, D.int 0].all (whB 0 (0 - 1))) = false := rfl
              rw [this, Bool.and_false, Bool.and_false]
            show (nodeB as 0 (.tup [.int o, .int 0, .int 0]) && true) = false
            rw [nb]; rfl
    · refine ⟨J5, t5, p5, none, fun kk => ?_, q5, j25, by omega, bd⟩
      have c1 := c (.mu p5)
      rw [decide_eq_false (by omega)] at c1
      exact s_if0 c1
  obtain ⟨J, t6, p6, x7, run6, q6, j6, J6, bd6⟩ := key
  obtain ⟨M, hM⟩ : ∃ M : List D, M = [.tup [.bl (o != 0), .int (k : Int), .tup Sb], .tup [.int o, .bl (decide ((k : Int) = 1)), .tup Sb]] := ⟨_, rfl⟩
  obtain ⟨t7, p7, l7, q7, j7⟩ := ev_more (v := 6) (xs := J) (ds := M) (ms := [(mTup [(mBlt fBool (mArgs [(mVar 2)])), (mVar 3), (mVar 4)]), (mTup [(mVar 2), (mOp fEqA (mVar 3) (ret (.int 1))), (mVar 4)])]) (w6 (.mu p6) x7) q6 (by
      rw [hM]
      exact ev_ac (ev_t3 (ev_blt1 (w2 _ _ _) rfl) (w3 _ _ _) (u4 _ _ _)) (ev_ac (ev_t3 (w2 _ _ _) (ev_op (w3 _ _ _) rfl (by rw [u_eqI])) (u4 _ _ _)) ev_nil)) ⟨[], by simp⟩ (by omega) (by rw [hM]; simp)
  obtain ⟨a, ha7⟩ := j6
  obtain ⟨b, hb7⟩ := j7
  have e7 : t7 = st ++ (a ++ b) := by rw [hb7, ha7]; simp
  refine ⟨p7, J ++ M, a ++ b, ?_, by rw [← e7]; exact q7, by rw [List.length_append, hM]; simp; omega, fun d hd => ?_⟩
  · rw [← e7]
    refine run_rt (e2 := E (.mu p6) x7) ?_
    rw [b__law_odd_ones, e0,
      s_asg (en1 := [some (.tpn as), some G, some (.int o), some (.int (k : Int)), some (.tup Sb), none, none, none]) (d := G) (st' := st) (setTup 3 [(setN 2), (setN 3), (setN 4)]) (ev_var rfl) (by rw [hG]; simp [setTup, setT]),
      s_asg (en1 := en2) (d := L) (st' := st) (setN 5) (by rw [hL, hz]; exact t1 (t1 (ev_idx0 h0 rfl))) (by rw [hen2]; simp),
      s_asg (en1 := E (.mu s1.length) none) (d := .mu s1.length) (st' := t1') (setN 6) l1 (by rw [hen2, hE]; simp),
      s_asg (en1 := E (.mu p2) none) (d := .mu p2) (st' := t2) (setN 6) l2 (by rw [hE]; simp),
      s_asg (en1 := E (.mu p3) none) (d := .mu p3) (st' := t3) (setN 6) l3 (by rw [hE]; simp),
      s_asg (en1 := E (.mu p4) none) (d := .mu p4) (st' := t4) (setN 6) l4 (by rw [hE]; simp),
      s_asg (en1 := E (.mu p5) none) (d := .mu p5) (st' := t5) (setN 6) l5 (by rw [hE]; simp),
      run6]
    exact s_ret l7
  · rcases List.mem_append.mp hd with hd | hd
    · exact bd6 d hd
    · rw [hM] at hd
      simp only [List.mem_cons, List.not_mem_nil, or_false] at hd
      rcases hd with rfl | rfl
      · exact ⟨ok3' (.bl _) kk okS, step_op rfl⟩
      · exact ⟨ok3' (okI _) (.bl _) okS, step_pl rfl⟩
end M2
set_option Elab.async false
set_option linter.all false
set_option maxRecDepth 100000
set_option maxHeartbeats 4000000
namespace M2
open PySem PySem.Spec PyProof.Rows L2
open Classical
variable [Tb]
/-! ### what is refused -/
theorem r_ctx_no {d x : D} (h : Ok d) (n : arB d = false) (st : Sto) : ∃ j, f_is_context [d, x] st = some (.error ⟨"NoArities", []⟩, st ++ j) := by
  obtain ⟨j, e⟩ := r_ar_no h n st
  refine ⟨j, ?_⟩
  have e0 : envOf 3 [d, x] = [some d, some x, none] := rfl
  have v : mVar 0 [some d, some x, none] st = some (.ok d, st) := ev_var rfl
  have c : mCall 1 f_need_arities (mArgs [(mVar 0)]) [some d, some x, none] st = some (.error ⟨"NoArities", []⟩, st ++ j) := by
    simp only [u_mCall, u_bnd, u_mArgs1, u_mArgs0, v, u_ret, List.length_cons, List.length_nil, Nat.zero_add, Nat.reduceAdd, if_true, e]
  show runF 3 b_is_context [d, x] st = _
  rw [u_runF, b_is_context, e0, u_sSeq, u_sExpr, u_sEx, c]
theorem r_refused {d : D} (h : Ok d) (n : arB d = false) (st : Sto) : ∃ j, f__law_refused [d] st = some (.ok (.bl true), st ++ j) := by
  obtain ⟨j, e⟩ := r_ctx_no (x := .tup []) h n st
  refine ⟨j, ?_⟩
  have e0 : envOf 2 [d] = [some d, none] := rfl
  have v : mVar 0 [some d, none] st = some (.ok d, st) := ev_var rfl
  have t : mTup [] [some d, none] st = some (.ok (.tup []), st) := ev_tupG (ds := []) ev_nil (by decide)
  have c : mCall 2 f_is_context (mArgs [(mVar 0), (mTup [])]) [some d, none] st = some (.error ⟨"NoArities", []⟩, st ++ j) := by
    have a : mArgs [(mVar 0), (mTup [])] [some d, none] st = some (.ok [d, .tup []], st) := ev_ac v (ev_ac t ev_nil)
    simp only [u_mCall, u_bnd, a, List.length_cons, List.length_nil, Nat.zero_add, Nat.reduceAdd, if_true, e]
  have lk : kwL.lookup ("NoArities" : Str) = some ("arities" : Str) := by decide +kernel
  have tr : sTryE 1 kwL (fun n => some (.bl (isaX n "NoArities"))) (mCall 2 f_is_context (mArgs [(mVar 0), (mTup [])])) [some d, none] st = some (.rt (.bl true), [some d, none], st ++ j) := by
    unfold sTryE
    rw [c]
    simp only [lk]
    rw [if_pos (by simp)]
    have : isaX "NoArities" "NoArities" = true := by decide +kernel
    rw [this]; rfl
  refine run_rt (e2 := [some d, none]) ?_
  rw [b__law_refused, e0, u_sSeq, tr]
end M2
set_option Elab.async false
set_option linter.all false
set_option maxRecDepth 100000
set_option maxHeartbeats 4000000
namespace M2
open PySem PySem.Spec PyProof.Rows L2
open Classical
variable [Tb]
/-! ### one context -/
theorem sp_ok {as : List Int} (ha : Ar as) {c : Sp} (h : Sn as c) : Ok (spD c) := by
  obtain ⟨o, k, ts⟩ := c
  have hv : ∀ t ∈ ts, Vt as t ∧ t.length ≤ 3 := h.vt
  have oa : as[o.toNat]? = some ((ts.length : Int) + 1) := h.ar
  have tl : ts.length ≤ 1 := by have := (ha.2.2 _ (List.mem_of_getElem? oa)).2; omega
  exact ok3' (.int _) (.int _) (.tup (fun x hx => by
    obtain ⟨t, ht, rfl⟩ := List.mem_map.mp hx
    exact tr_ok ha (hv t ht).1.at' (by have := (hv t ht).2; omega)) (by simp; omega))
theorem sp_step {as : List Int} (ha : Ar as) {c : Sp} (h : Sn as c) : stepB as (spD c) = true := by
  obtain ⟨j, e⟩ := r_stepG ha (sp_ok ha h) []
  obtain ⟨j2, e2⟩ := r_step ha h []
  rw [e] at e2
  injection e2 with e2
  have := congrArg Prod.fst e2
  simpa using this
theorem cs_ok {as : List Int} (ha : Ar as) {cs : List Sp} (h : ∀ c ∈ cs, Sn as c) (hl : cs.length ≤ 100) : Ok (.tup (cs.map spD)) := .tup (fun x hx => by
  obtain ⟨c, hc, rfl⟩ := List.mem_map.mp hx
  exact sp_ok ha (h c hc)) (by simp; omega)
theorem cs_ctx {as : List Int} (ha : Ar as) {cs : List Sp} (h : ∀ c ∈ cs, Sn as c) : ctxB as (.tup (cs.map spD)) = true := by
  show (cs.map spD).all (stepB as) = true
  rw [List.all_eq_true]
  intro x hx
  obtain ⟨c, hc, rfl⟩ := List.mem_map.mp hx
  exact sp_step ha (h c hc)
noncomputable abbrev mOddB : MS := (sSeq (sIf (mB (mOp fNotB (mCall 2 f_is_context (mArgs [(mFg (mVar 5)), (mOp fAddB (mOp fAddB (mSl (mVar 6) none (some (mVar 8))) (mTup [(mVar 1)])) (mSl (mVar 6) (some (mOp fAddB (mVar 8) (ret (.int 1)))) none))])) (ret (.bl false)))) (sSeq (sRet (ret (.bl false)))
    sNx) sNx)
    sNx)
noncomputable abbrev mLegB : MS := (sSeq (sFor (mIter (mCall 2 f__law_odd_ones (mArgs [(mVar 5), (mVar 9)]))) (setN 1) mOddB)
    sNx)
theorem part_m {m : MM D} {t : Int} {en : En} {s s1 : Sto} (h : m en s = some (.ok (.int t), s1)) : mPart (some m) en s = some (.ok (some t), s1) := by
  simp only [u_mPart1, u_bnd, h, u_lft, Option.map_some]
theorem r_oddB {as : List Int} (ha : Ar as) {cs : List Sp} (h : ∀ c ∈ cs, Sn as c) (hl : cs.length ≤ 100) {d : D} (bd : Bd as d) {i : Nat} {en : En} {s : Sto} (v5 : en[5]? = some (some (.tpn as))) (v6 : en[6]? = some (some (.tup (cs.map spD)))) (v8 : en[8]? = some (some (.int (i : Int)))) (v1 : en[1]? = some (some d)) :
    ∃ j, mOddB en s = some (.nx, en, s ++ j) := by
  have p1 : mSl (mVar 6) none (some (mVar 8)) en s = some (.ok (.tup ((cs.take i).map spD)), s) := by
    rw [sl_tup v6 rfl (part_v v8), cutD_to _ (by omega), ← List.map_take, Int.toNat_natCast]
  have p2 : mSl (mVar 6) (some (mOp fAddB (mVar 8) (ret (.int 1)))) none en s = some (.ok (.tup ((cs.drop (i + 1)).map spD)), s) := by
    have a : mOp fAddB (mVar 8) (ret (.int 1)) en s = some (.ok (.int ((i + 1 : Nat) : Int)), s) := ev_op (ev_var v8) rfl (by rw [u_addBi, u_add]; rfl)
    rw [sl_tup v6 (part_m a) rfl, cutD_from, ← List.map_drop]
  have t1' : (cs.take i).length ≤ 100 := by rw [List.length_take]; omega
  have t2' : (cs.drop (i + 1)).length ≤ 100 := by rw [List.length_drop]; omega
  have cat := ev_catT (ev_catT p1 (t1 (ev_var v1)) (by simp; omega)) p2 (by simp; omega)
  have okA := cs_ok ha (fun c hc => h c (List.mem_of_mem_take hc)) t1'
  have okB := cs_ok ha (fun c hc => h c (List.mem_of_mem_drop hc)) t2'
  have okC := ok_cat (ok_cat okA (ok1 bd.1) (by simp; omega)) okB (by simp; omega)
  obtain ⟨j, e⟩ := r_ctxG ha okC s
  have no : ctxB as (.tup ((cs.take i).map spD ++ [d] ++ (cs.drop (i + 1)).map spD)) = false := by
    show List.all _ _ = false
    rw [List.all_eq_false]
    exact ⟨d, by simp, by rw [bd.2]; decide⟩
  rw [no] at e
  refine ⟨j, ?_⟩
  have c : mB (mOp fNotB (mCall 2 f_is_context (mArgs [(mFg (mVar 5)), (mOp fAddB (mOp fAddB (mSl (mVar 6) none (some (mVar 8))) (mTup [(mVar 1)])) (mSl (mVar 6) (some (mOp fAddB (mVar 8) (ret (.int 1)))) none))])) (ret (.bl false))) en s = some (.ok false, s ++ j) :=
    ev_mB (ev_op (ev_callM2 (ev_fg v5) cat e) rfl rfl)
  rw [mOddB, s_if0 c, u_sNx]
theorem r_legB {as : List Int} (ha : Ar as) (h0 : 0 ∈ as) {cs : List Sp} (h : ∀ c ∈ cs, Sn as c) (hl : cs.length ≤ 100) {c : Sp} (hc : Sn as c) {i : Nat} {x0 x1 x2 x3 x4 x7 : Option D} {s : Sto} :
    ∃ y1 j, mLegB [x0, x1, x2, x3, x4, some (.tpn as), some (.tup (cs.map spD)), x7, some (.int (i : Int)), some (spD c)] s = some (.nx, [x0, y1, x2, x3, x4, some (.tpn as), some (.tup (cs.map spD)), x7, some (.int (i : Int)), some (spD c)], s ++ j) := by
  obtain ⟨l, items, j0, e0, q0, few, bd⟩ := r_odds ha h0 hc s
  obtain ⟨s0, hs0⟩ : ∃ s0, s0 = s ++ j0 := ⟨_, rfl⟩
  rw [← hs0] at e0 q0
  have im : mIter (mCall 2 f__law_odd_ones (mArgs [(mVar 5), (mVar 9)])) [x0, x1, x2, x3, x4, some (.tpn as), some (.tup (cs.map spD)), x7, some (.int (i : Int)), some (spD c)] s = some (.ok ⟨items, some l, []⟩, s0) :=
    ev_itr (ev_callM2 (ev_var rfl) (ev_var rfl) e0) (by show (s0[l]?).map _ = _; rw [q0]; rfl)
  obtain ⟨en', s', hlp, ⟨y1, he⟩, j, hj⟩ := loop_loc (set := setN 1) (body := mOddB) (it := ⟨items, some l, []⟩)
    (fun _ en t => (∃ y1, en = [x0, y1, x2, x3, x4, some (.tpn as), some (.tup (cs.map spD)), x7, some (.int (i : Int)), some (spD c)]) ∧ ∃ j, t = s0 ++ j)
    (fun _ en t ⟨_, j, hj⟩ => ⟨fun l hl => by cases hl; rw [hj]; exact at_app q0 _, fun x hx => by cases hx⟩)
    (fun n d en t hd ⟨⟨y1, he⟩, j, hj⟩ => by
      subst he
      obtain ⟨j2, e2⟩ := r_oddB ha h hl (bd d (List.mem_of_getElem? hd)) (i := i) (en := [x0, some d, x2, x3, x4, some (.tpn as), some (.tup (cs.map spD)), x7, some (.int (i : Int)), some (spD c)]) (s := t) rfl rfl rfl rfl
      exact ⟨_, _, _, by simp, e2, ⟨_, rfl⟩, j ++ j2, by rw [hj, List.append_assoc]⟩)
    (en := [x0, x1, x2, x3, x4, some (.tpn as), some (.tup (cs.map spD)), x7, some (.int (i : Int)), some (spD c)]) (st := s0) ⟨⟨_, rfl⟩, [], by simp⟩
  subst he
  refine ⟨y1, j0 ++ j, ?_⟩
  rw [mLegB, s_forR im hlp, u_sNx, hj, hs0, List.append_assoc]
theorem rep_bl6 {s : Sto} {l : Nat} (h : s[l]? = some [.bl true, .bl true, .bl true, .bl false, .bl false, .bl false]) : fReprA [.mu l] s = some (.str (PyData.list [.bool true, .bool true, .bool true, .bool false, .bool false, .bool false]).shown, s) := by
  refine rep_of ?_ (Rq.lst fun q hq => ?_) (by decide +kernel)
  · simp [dat, datL, h]
  · simp only [List.mem_cons, List.not_mem_nil, or_false] at hq
    rcases hq with rfl | rfl | rfl | rfl | rfl | rfl <;> exact ⟨rfl, rfl, rfl⟩
theorem neS (t : Str) (st : Sto) : fNeA (.str t) (.str t) st = some (.bl false, st) := by simp [fNeA]
noncomputable abbrev mLap40 : MS := (sSeq (sAsg (mIf (mB (mOp fGt (mVar 4) (ret (.int 0)))) (mCall 1 f__law_arities (mArgs [(mVar 3)])) (mTupN [(ret (.int 2)), (ret (.int 0)), (ret (.int 1))])) (setN 5))
    (sSeq (sAsg (mCall 3 f__law_context (mArgs [(mVar 3), (mFg (mVar 5)), (ret (.int 4))])) (setN 6))
    (sSeq (sAsg (mLst [(mCall 2 f_is_context (mArgs [(mFg (mVar 5)), (mVar 6)])), (mCall 2 f_is_context (mArgs [(mFg (mVar 5)), (mSl (mVar 6) none (some (ret (.int 1))))])), (mCall 2 f_is_context (mArgs [(mFg (mVar 5)), (mTup [])]))]) (setN 7))
    (sSeq (sAsg (mOp fAddB (mVar 7) (mLst [(mCall 2 f_is_context (mArgs [(mFg (mVar 5)), (mBlt fList (mArgs [(mVar 6)]))])), (mCall 2 f_is_context (mArgs [(mFg (mVar 5)), (ret .non)])), (mCall 2 f_is_context (mArgs [(mFg (mVar 5)), (ret (.str (Str.ofString "()")))]))])) (setN 7))
    (sSeq (sIf (mB (mOp fNeA (mBlt fReprA (mArgs [(mVar 7)])) (mBlt fReprA (mArgs [(mLst [(ret (.bl true)), (ret (.bl true)), (ret (.bl true)), (ret (.bl false)), (ret (.bl false)), (ret (.bl false))])])))) (sSeq (sRet (ret (.bl false)))
    sNx) sNx)
    (sSeq (sFor (mEnum (mVar 6)) (setTup 2 [(setN 8), (setN 9)]) mLegB)
    sNx))))))
theorem ar201 : Ar [2, 0, 1] := ⟨by decide, by decide, by decide⟩
theorem r_lap40 {N p q : Nat} {st : Sto} {x0 x1 x2 x5 x6 x7 x8 x9 : Option D} (hp : Pn N st p) (hN : N ≤ 80000000) :
    ∃ y1 y5 y6 y7 y8 y9 st', mLap40 [x0, x1, x2, some (.mu p), some (.int (q : Int)), x5, x6, x7, x8, x9] st = some (.nx, [x0, y1, x2, some (.mu p), some (.int (q : Int)), y5, y6, y7, y8, y9], st') ∧ Pn (N + 30000) st' p := by
  have ar : ∃ as s1, (mIf (mB (mOp fGt (mVar 4) (ret (.int 0)))) (mCall 1 f__law_arities (mArgs [(mVar 3)])) (mTupN [(ret (.int 2)), (ret (.int 0)), (ret (.int 1))])) [x0, x1, x2, some (.mu p), some (.int (q : Int)), x5, x6, x7, x8, x9] st = some (.ok (.tpn as), s1) ∧ Ar as ∧ 0 ∈ as ∧ Pn (N + 20) s1 p := by
    have c : mB (mOp fGt (mVar 4) (ret (.int 0))) [x0, x1, x2, some (.mu p), some (.int (q : Int)), x5, x6, x7, x8, x9] st = some (.ok (decide ((0 : Int) < (q : Int))), st) := ev_mB (ev_op (ev_var rfl) rfl (by rw [u_gt]))
    by_cases hq : (0 : Int) < (q : Int)
    · rw [decide_eq_true hq] at c
      obtain ⟨as, s1, e1, ⟨ha, _⟩, h0, p1, _⟩ := r_arities hp (by omega)
      refine ⟨as, s1, ?_, ha, h0, p1⟩
      rw [u_mIf]
      simp only [u_bnd, c, if_true]
      exact ev_callM (ev_var rfl) e1
    · rw [decide_eq_false hq] at c
      refine ⟨[2, 0, 1], st, ?_, ar201, by simp, hp.mono (by omega)⟩
      rw [u_mIf]
      simp only [u_bnd, c, Bool.false_eq_true, if_false]
      have a : mArgs [(ret (.int 2)), (ret (.int 0)), (ret (.int 1))] [x0, x1, x2, some (.mu p), some (.int (q : Int)), x5, x6, x7, x8, x9] st = some (.ok [.int 2, .int 0, .int 1], st) := ev_ac rfl (ev_ac rfl (ev_ac rfl ev_nil))
      unfold mTupN
      simp only [u_bnd, a]
      rfl
  obtain ⟨as, s1, e1, ha, h0, p1⟩ := ar
  obtain ⟨en1, hen1⟩ : ∃ en1 : En, en1 = [x0, x1, x2, some (.mu p), some (.int (q : Int)), some (.tpn as), x6, x7, x8, x9] := ⟨_, rfl⟩
  obtain ⟨cs, s2, e2, hcs, cl, p2, _⟩ := r_lcontext p1 (by omega) ha h0 (upto := 4) (by decide) (by decide)
  obtain ⟨C, hC⟩ : ∃ C, C = D.tup (cs.map spD) := ⟨_, rfl⟩
  rw [← hC] at e2
  obtain ⟨en2, hen2⟩ : ∃ en2 : En, en2 = [x0, x1, x2, some (.mu p), some (.int (q : Int)), some (.tpn as), some C, x7, x8, x9] := ⟨_, rfl⟩
  have v5 : en2[5]? = some (some (.tpn as)) := by rw [hen2]; rfl
  have v6 : en2[6]? = some (some C) := by rw [hen2]; rfl
  have v6' : en2[6]? = some (some (.tup (cs.map spD))) := by rw [v6, hC]
  have okC : Ok C := by rw [hC]; exact cs_ok ha hcs (by omega)
  have cC : ctxB as C = true := by rw [hC]; exact cs_ctx ha hcs
  obtain ⟨a1, c1⟩ := r_ctxG ha okC s2
  rw [cC] at c1
  obtain ⟨s3, hs3⟩ : ∃ s3, s3 = s2 ++ a1 := ⟨_, rfl⟩
  rw [← hs3] at c1
  have k1 : (cs.take 1).length ≤ 100 := by rw [List.length_take]; omega
  obtain ⟨a2, c2⟩ := r_ctxG ha (cs_ok ha (fun c hc => hcs c (List.mem_of_mem_take hc)) k1) s3
  rw [cs_ctx ha fun c hc => hcs c (List.mem_of_mem_take hc)] at c2
  obtain ⟨s4, hs4⟩ : ∃ s4, s4 = s3 ++ a2 := ⟨_, rfl⟩
  rw [← hs4] at c2
  obtain ⟨a3, c3⟩ := r_ctxG ha (d := .tup []) (.tup (fun x hx => by cases hx) (by simp)) s4
  rw [show ctxB as (.tup []) = true from rfl] at c3
  obtain ⟨s5, hs5⟩ : ∃ s5, s5 = s4 ++ a3 := ⟨_, rfl⟩
  rw [← hs5] at c3
  have sl1 : mSl (mVar 6) none (some (ret (.int 1))) en2 s3 = some (.ok (.tup ((cs.take 1).map spD)), s3) := by
    rw [sl_tup v6' rfl (part_m rfl), cutD_to _ (by decide), ← List.map_take]; rfl
  have l1 : mLst [(mCall 2 f_is_context (mArgs [(mFg (mVar 5)), (mVar 6)])), (mCall 2 f_is_context (mArgs [(mFg (mVar 5)), (mSl (mVar 6) none (some (ret (.int 1))))])), (mCall 2 f_is_context (mArgs [(mFg (mVar 5)), (mTup [])]))] en2 s2 = some (.ok (.mu s5.length), s5 ++ [[.bl true, .bl true, .bl true]]) :=
    ev_lstG (ev_ac (ev_callM2 (ev_fg v5) (ev_var v6) c1) (ev_ac (ev_callM2 (ev_fg v5) sl1 c2) (ev_ac (ev_callM2 (ev_fg v5) (ev_tupG (ds := []) ev_nil (by decide)) c3) ev_nil))) (by decide)
  obtain ⟨s6, hs6⟩ : ∃ s6, s6 = s5 ++ [[D.bl true, .bl true, .bl true]] := ⟨_, rfl⟩
  rw [← hs6] at l1
  have q6 : s6[s5.length]? = some [.bl true, .bl true, .bl true] := by rw [hs6]; exact at0
  obtain ⟨en3, hen3⟩ : ∃ en3 : En, en3 = [x0, x1, x2, some (.mu p), some (.int (q : Int)), some (.tpn as), some C, some (.mu s5.length), x8, x9] := ⟨_, rfl⟩
  have w5 : en3[5]? = some (some (.tpn as)) := by rw [hen3]; rfl
  have w6 : en3[6]? = some (some C) := by rw [hen3]; rfl
  have w7 : en3[7]? = some (some (.mu s5.length)) := by rw [hen3]; rfl
  obtain ⟨b1, g1⟩ := r_ctxG ha (d := .mu s6.length) (.mu _) (s6 ++ [cs.map spD])
  obtain ⟨b2, g2⟩ := r_ctxG ha (d := .non) .non (s6 ++ [cs.map spD] ++ b1)
  obtain ⟨b3, g3⟩ := r_ctxG ha (d := .str (Str.ofString "()")) (.str _) (s6 ++ [cs.map spD] ++ b1 ++ b2)
  obtain ⟨s7, p7, l7, q7, j7⟩ := ev_more (v := 7) (xs := [.bl true, .bl true, .bl true]) (ds := [.bl false, .bl false, .bl false]) (s1 := s6 ++ [cs.map spD] ++ b1 ++ b2 ++ b3) (ms := [(mCall 2 f_is_context (mArgs [(mFg (mVar 5)), (mBlt fList (mArgs [(mVar 6)]))])), (mCall 2 f_is_context (mArgs [(mFg (mVar 5)), (ret .non)])), (mCall 2 f_is_context (mArgs [(mFg (mVar 5)), (ret (.str (Str.ofString "()")))]))]) w7 q6
    (ev_ac (ev_callM2 (ev_fg w5) (ev_blt1 (ev_var w6) (by rw [hC]; rfl)) g1) (ev_ac (ev_callM2 (ev_fg w5) rfl g2) (ev_ac (ev_callM2 (ev_fg w5) rfl g3) ev_nil))) ⟨[cs.map spD] ++ b1 ++ b2 ++ b3, by simp⟩ (by simp) (by simp)
  obtain ⟨en4, hen4⟩ : ∃ en4 : En, en4 = [x0, x1, x2, some (.mu p), some (.int (q : Int)), some (.tpn as), some C, some (.mu p7), x8, x9] := ⟨_, rfl⟩
  have z7 : en4[7]? = some (some (.mu p7)) := by rw [hen4]; rfl
  have z6 : en4[6]? = some (some (.tup (cs.map spD))) := by rw [hen4, hC]; rfl
  have q7' : s7[p7]? = some [.bl true, .bl true, .bl true, .bl false, .bl false, .bl false] := q7
  have dl : mLst [(ret (.bl true)), (ret (.bl true)), (ret (.bl true)), (ret (.bl false)), (ret (.bl false)), (ret (.bl false))] en4 s7 = some (.ok (.mu s7.length), s7 ++ [[.bl true, .bl true, .bl true, .bl false, .bl false, .bl false]]) :=
    ev_lstG (ev_ac rfl (ev_ac rfl (ev_ac rfl (ev_ac rfl (ev_ac rfl (ev_ac rfl ev_nil)))))) (by decide)
  obtain ⟨s8, hs8⟩ : ∃ s8, s8 = s7 ++ [[D.bl true, .bl true, .bl true, .bl false, .bl false, .bl false]] := ⟨_, rfl⟩
  rw [← hs8] at dl
  have q8 : s8[s7.length]? = some [.bl true, .bl true, .bl true, .bl false, .bl false, .bl false] := by rw [hs8]; exact at0
  have cR : mB (mOp fNeA (mBlt fReprA (mArgs [(mVar 7)])) (mBlt fReprA (mArgs [(mLst [(ret (.bl true)), (ret (.bl true)), (ret (.bl true)), (ret (.bl false)), (ret (.bl false)), (ret (.bl false))])]))) en4 s7 = some (.ok false, s8) :=
    ev_mB (ev_op (ev_blt1 (ev_var z7) (rep_bl6 q7')) (ev_blt1 dl (rep_bl6 q8)) (neS _ _))
  have en : mEnum (mVar 6) en4 s8 = some (.ok ⟨numbered 0 (cs.map spD), none, []⟩, s8) := by
    have v : mVar 6 en4 s8 = some (.ok (.tup (cs.map spD)), s8) := ev_var z6
    unfold mEnum
    simp only [u_bnd, v]
    rfl
  obtain ⟨en', s', hlp, ⟨y1, y8, y9, he⟩, j, hj⟩ := loop_gen (set := setTup 2 [(setN 8), (setN 9)]) (body := mLegB) (it := ⟨numbered 0 (cs.map spD), none, []⟩)
    (fun _ en s => (∃ y1 y8 y9, en = [x0, y1, x2, some (.mu p), some (.int (q : Int)), some (.tpn as), some C, some (.mu p7), y8, y9]) ∧ ∃ j, s = s8 ++ j) rfl
    (fun i d en s hd ⟨⟨y1, y8, y9, he⟩, j, hj⟩ => by
      subst he
      have hd : (numbered 0 (cs.map spD))[i]? = some d := hd
      rw [numbered_get, List.getElem?_map] at hd
      cases e : cs[i]? with
      | none => rw [e] at hd; cases hd
      | some c =>
        rw [e] at hd
        have hd : d = .tup [.int (i : Int), spD c] := by
          simp at hd; exact hd.symm
        subst hd
        obtain ⟨z1, j2, e2⟩ := r_legB ha h0 hcs (by omega) (hcs c (List.mem_of_getElem? e)) (i := i) (x0 := x0) (x1 := y1) (x2 := x2) (x3 := some (.mu p)) (x4 := some (.int (q : Int))) (x7 := some (.mu p7)) (s := s)
        rw [← hC] at e2
        exact ⟨[x0, y1, x2, some (.mu p), some (.int (q : Int)), some (.tpn as), some C, some (.mu p7), some (.int (i : Int)), some (spD c)], _, _, by simp [setTup, setT], e2, ⟨_, _, _, rfl⟩, j ++ j2, by rw [hj, List.append_assoc]⟩)
    (en := en4) (st := s8) ⟨⟨_, _, _, hen4⟩, [], by simp⟩
  subst he
  refine ⟨y1, some (.tpn as), some C, some (.mu p7), y8, y9, s', ?_, ?_⟩
  · rw [mLap40, s_asg (en1 := en1) (d := .tpn as) (st' := s1) (setN 5) e1 (by rw [hen1]; simp),
      s_asg (en1 := en2) (d := C) (st' := s2) (setN 6) (ev_callM3 (ev_var (by rw [hen1]; rfl)) (ev_fg (as := as) (by rw [hen1]; rfl)) rfl e2) (by rw [hen1, hen2]; simp),
      s_asg (en1 := en3) (d := .mu s5.length) (st' := s6) (setN 7) l1 (by rw [hen2, hen3]; simp),
      s_asg (en1 := en4) (d := .mu p7) (st' := s7) (setN 7) l7 (by rw [hen3, hen4]; simp), s_if0 cR, s_forR en hlp, u_sNx]
  · rw [hj]
    refine Pn.app ?_ _
    rw [hs8]
    refine Pn.app ?_ _
    obtain ⟨b, hb⟩ := j7
    rw [hb]
    refine Pn.app ?_ _
    rw [hs6, hs5, hs4, hs3]
    exact ((((p2.mono (by omega)).app _).app _).app _).app _
end M2
set_option Elab.async false
set_option linter.all false
set_option maxRecDepth 100000
set_option maxHeartbeats 4000000
namespace M2
open PySem PySem.Spec PyProof.Rows L2
open Classical
variable [Tb]
/-! ### the law -/
noncomputable abbrev mCell40 : MS := (sSeq (sAsg (mCall 1 f__law_pen (mArgs [(mCall 2 f__law_cell_at (mArgs [(mVar 0), (mVar 2)]))])) (setN 3))
    (sSeq (sFor (mRng1 (ret (.int 4))) (setN 4) mLap40)
    sNx))
theorem r_cell40 {ns : List Int} {k : Nat} {st : Sto} {x1 x3 x4 x5 x6 x7 x8 x9 : Option D} :
    ∃ y1 y3 y4 y5 y6 y7 y8 y9 st', mCell40 [some (.scr ns), x1, some (.int (k : Int)), x3, x4, x5, x6, x7, x8, x9] st = some (.nx, [some (.scr ns), y1, some (.int (k : Int)), y3, y4, y5, y6, y7, y8, y9], st') := by
  obtain ⟨i, e1⟩ := r_cell ns k st
  obtain ⟨s1, e2, P1, _⟩ := r_pen i st
  obtain ⟨en4, s4, hlp, ⟨y1, y4, y5, y6, y7, y8, y9, he⟩, P4⟩ := loop_gen (set := setN 4) (body := mLap40) (it := ⟨(List.range 4).map fun (i : Nat) => D.int (i : Int), none, []⟩)
    (fun q en s => (∃ y1 y4 y5 y6 y7 y8 y9, en = [some (.scr ns), y1, some (.int (k : Int)), some (.mu st.length), y4, y5, y6, y7, y8, y9]) ∧ Pn (30000 * q) s st.length) rfl
    (fun q d en s hd ⟨⟨y1, y4, y5, y6, y7, y8, y9, he⟩, hP⟩ => by
      subst he
      obtain ⟨hq, rfl⟩ := rng_items hd
      obtain ⟨z1, z5, z6, z7, z8, z9, s', e, P'⟩ := r_lap40 (q := q) (x0 := some (.scr ns)) (x1 := y1) (x2 := some (.int (k : Int))) (x5 := y5) (x6 := y6) (x7 := y7) (x8 := y8) (x9 := y9) hP (by omega)
      exact ⟨_, _, _, by simp, e, ⟨_, _, _, _, _, _, _, rfl⟩, P'.mono (by omega)⟩)
    (en := [some (.scr ns), x1, some (.int (k : Int)), some (.mu st.length), x4, x5, x6, x7, x8, x9]) (st := s1) ⟨⟨_, _, _, _, _, _, _, rfl⟩, P1.mono (by omega)⟩
  subst he
  refine ⟨y1, some (.mu st.length), y4, y5, y6, y7, y8, y9, s4, ?_⟩
  rw [mCell40, s_asg (en1 := [some (.scr ns), x1, some (.int (k : Int)), some (.mu st.length), x4, x5, x6, x7, x8, x9]) (d := .mu st.length) (st' := s1) (setN 3) (ev_callM (ev_callM2 (ev_var rfl) (ev_var rfl) e1) e2) (by simp), s_forR (rng_c (c := 4) (n := 4) rfl (by decide)) hlp, u_sNx]
def bads (l : Nat) : List D := [.non, .tup [], .mu l, .tup [.int 0, .int 3], .tup [.int (-1)], .tup [.bl true], .tup [.int 0, .non], .tup (List.replicate 7 (.int 0)), .int 2, .str (Str.ofString "0"), .tup [.tup [.int 0]]]
theorem bads_no {l : Nat} {d : D} (h : d ∈ bads l) : Ok d ∧ arB d = false := by
  have ok2 : ∀ {x y : D}, Ok x → Ok y → Ok (.tup [x, y]) := fun h1 h2 => ok_cat (xs := [_]) (ys := [_]) (ok1 h1) (ok1 h2) (by simp)
  simp only [bads, List.mem_cons, List.not_mem_nil, or_false] at h
  rcases h with rfl | rfl | rfl | rfl | rfl | rfl | rfl | rfl | rfl | rfl | rfl
  · exact ⟨.non, rfl⟩
  · exact ⟨.tup (fun x hx => by cases hx) (by simp), rfl⟩
  · exact ⟨.mu _, rfl⟩
  · exact ⟨ok2 (.int _) (.int _), rfl⟩
  · exact ⟨ok1 (.int _), rfl⟩
  · exact ⟨ok1 (.bl _), rfl⟩
  · exact ⟨ok2 (.int _) .non, rfl⟩
  · exact ⟨.tup (fun x hx => by rw [(List.mem_replicate.mp hx).2]; exact .int _) (by simp), rfl⟩
  · exact ⟨.int _, rfl⟩
  · exact ⟨.str _, rfl⟩
  · exact ⟨ok1 (ok1 (.int _)), rfl⟩
noncomputable abbrev mBads : MM D := (mLst [(ret .non), (mTup []), (mLst [(ret (.int 0))]), (mTup [(ret (.int 0)), (ret (.int 3))]), (mTup [(mNeg (ret (.int 1)))]), (mTup [(ret (.bl true))]), (mTup [(ret (.int 0)), (ret .non)]), (mOp fMulA (mTup [(ret (.int 0))]) (ret (.int 7))), (ret (.int 2)), (ret (.str (Str.ofString "0"))), (mTup [(mTup [(ret (.int 0))])])])
theorem ev_bads (en : En) (s : Sto) : mBads en s = some (.ok (.mu (s.length + 1)), s ++ [[.int 0]] ++ [bads s.length]) := by
  have t2 : ∀ (x y : D) (s : Sto), mTup [ret x, ret y] en s = some (.ok (.tup [x, y]), s) := fun x y s => ev_tupG (ds := [x, y]) (ev_ac rfl (ev_ac rfl ev_nil)) (by simp)
  have mu7 : mOp fMulA (mTup [(ret (.int 0))]) (ret (.int 7)) en (s ++ [[.int 0]]) = some (.ok (.tup (List.replicate 7 (.int 0))), s ++ [[.int 0]]) := by
    refine ev_op (t1 rfl) rfl ?_
    unfold fMulA
    simp only []
    rw [if_pos ⟨by simp, by decide, by decide⟩]
    rfl
  have l0 : mLst [(ret (.int 0))] en s = some (.ok (.mu s.length), s ++ [[.int 0]]) := ev_lstG (ev_ac rfl ev_nil) (by simp)
  have := ev_lstG (ms := [(ret .non), (mTup []), (mLst [(ret (.int 0))]), (mTup [(ret (.int 0)), (ret (.int 3))]), (mTup [(mNeg (ret (.int 1)))]), (mTup [(ret (.bl true))]), (mTup [(ret (.int 0)), (ret .non)]), (mOp fMulA (mTup [(ret (.int 0))]) (ret (.int 7))), (ret (.int 2)), (ret (.str (Str.ofString "0"))), (mTup [(mTup [(ret (.int 0))])])]) (ds := bads s.length) (en := en) (s := s) (s1 := s ++ [[.int 0]])
    (ev_ac rfl (ev_ac (ev_tupG (ds := []) ev_nil (by decide)) (ev_ac l0 (ev_ac (t2 _ _ _) (ev_ac (t1 (x := .int (-1)) rfl) (ev_ac (t1 rfl) (ev_ac (t2 _ _ _) (ev_ac mu7 (ev_ac rfl (ev_ac rfl (ev_ac (t1 (t1 rfl)) ev_nil))))))))))) (by simp [bads])
  refine this.trans ?_
  simp
noncomputable abbrev mBadB : MS := (sSeq (sIf (mNot (mTru (mCall 1 f__law_refused (mArgs [(mVar 1)])))) (sSeq (sRet (ret (.bl false)))
    sNx) sNx)
    sNx)
theorem main (ns : List Int) (hns : ns.length ≤ 63) : ∃ st', f_law [.scr ns] [] = some (.ok (.bl true), st') := by
  have e0 : envOf 10 [D.scr ns] = [some (.scr ns), none, none, none, none, none, none, none, none, none] := rfl
  have bl := ev_bads [some (.scr ns), none, none, none, none, none, none, none, none, none] []
  obtain ⟨s3, hs3⟩ : ∃ s3 : Sto, s3 = [] ++ [[.int 0]] ++ [bads ([] : Sto).length] := ⟨_, rfl⟩
  rw [← hs3] at bl
  have q3 : s3[1]? = some (bads 0) := by rw [hs3]; rfl
  have im : mIter mBads [some (.scr ns), none, none, none, none, none, none, none, none, none] [] = some (.ok ⟨bads 0, some 1, []⟩, s3) := ev_itr bl (by show (s3[1]?).map _ = _; rw [q3]; rfl)
  obtain ⟨en4, s4, hlp1, ⟨x1, he4⟩, j4, hj4⟩ := loop_loc (set := setN 1) (body := mBadB) (it := ⟨bads 0, some 1, []⟩)
    (fun _ en s => (∃ x1, en = [some (.scr ns), x1, none, none, none, none, none, none, none, none]) ∧ ∃ j, s = s3 ++ j)
    (fun _ en s ⟨_, j, hj⟩ => ⟨fun l hl => by cases hl; rw [hj]; exact at_app q3 _, fun x hx => by cases hx⟩)
    (fun i d en s hd ⟨⟨x1, he⟩, j, hj⟩ => by
      subst he
      obtain ⟨ok, no⟩ := bads_no (List.mem_of_getElem? hd)
      obtain ⟨j2, e2⟩ := r_refused ok no s
      have c := ev_notT (ev_callM (f := f__law_refused) (m := mVar 1) (en := [some (.scr ns), some d, none, none, none, none, none, none, none, none]) (ev_var rfl) e2)
      exact ⟨[some (.scr ns), some d, none, none, none, none, none, none, none, none], _, s ++ j2, by simp, by rw [mBadB, s_if0 c, u_sNx], ⟨_, rfl⟩, j ++ j2, by rw [hj, List.append_assoc]⟩)
    (en := [some (.scr ns), none, none, none, none, none, none, none, none, none]) (st := s3) ⟨⟨_, rfl⟩, [], by simp⟩
  obtain ⟨v, hv, v0, v3⟩ : ∃ v : Int, (mBlt fMax2 (mArgs [(ret (.int 1)), (mBlt fMin2 (mArgs [(mBlt fLen (mArgs [(mVar 0)])), (ret (.int 3))]))])) en4 s4 = some (.ok (.int v), s4) ∧ 0 ≤ v ∧ v ≤ 3 := by
    refine ⟨if (if (3 : Int) < ns.length then 3 else (ns.length : Int)) > 1 then (if (3 : Int) < ns.length then 3 else (ns.length : Int)) else 1, by rw [he4]; simp, ?_, ?_⟩
    · split <;> split <;> omega
    · split <;> split <;> omega
  obtain ⟨en', s', hlp, ⟨y1, y2, y3, y4, y5, y6, y7, y8, y9, he⟩⟩ := loop_gen (set := setN 2) (body := mCell40) (it := ⟨(List.range v.toNat).map fun (i : Nat) => D.int (i : Int), none, []⟩)
    (fun _ en _ => ∃ y1 y2 y3 y4 y5 y6 y7 y8 y9, en = [some (.scr ns), y1, y2, y3, y4, y5, y6, y7, y8, y9]) rfl
    (fun k d en s hd ⟨y1, y2, y3, y4, y5, y6, y7, y8, y9, he⟩ => by
      subst he
      obtain ⟨_, rfl⟩ := rng_items hd
      obtain ⟨z1, z3, z4, z5, z6, z7, z8, z9, st', e⟩ := r_cell40 (ns := ns) (k := k) (st := s) (x1 := y1) (x3 := y3) (x4 := y4) (x5 := y5) (x6 := y6) (x7 := y7) (x8 := y8) (x9 := y9)
      exact ⟨_, _, _, by simp, e, _, _, _, _, _, _, _, _, _, rfl⟩)
    (en := en4) (st := s4) ⟨_, _, _, _, _, _, _, _, _, he4⟩
  refine ⟨s', run_rt (e2 := en') ?_⟩
  rw [b_law, e0, s_forR im hlp1, s_forR (rng_ok hv v0 (by omega)) hlp]
  exact s_ret rfl
end M2
set_option Elab.async false
set_option linter.all false
set_option maxRecDepth 100000
set_option maxHeartbeats 4000000
namespace M2
open PySem PySem.Spec PyProof.Rows L2
open Classical
theorem all_mk [Tb] {l : PySem.W.OpenLaw} {w : World} {K : PySem.W.Frag} {h : Heap} {mg : Str → Option Value} {fa : Addr} {ts : List Addr} (X : K.In h) (G : h.Ns mainGlobals mg) (hfa : mg "law" = some (.ref fa))
    {f0 : Addr} {od0 an0 : Option Addr} {sl0 : Array (Option Value)} {oc0 kV0 dc0 pm0 cd0 ct0 : Value}
    {f1 : Addr} {od1 an1 : Option Addr} {sl1 : Array (Option Value)} {oc1 kV1 dc1 pm1 cd1 ct1 : Value}
    {f2 : Addr} {od2 an2 : Option Addr} {sl2 : Array (Option Value)} {oc2 kV2 dc2 pm2 cd2 ct2 : Value}
    {f3 : Addr} {od3 an3 : Option Addr} {sl3 : Array (Option Value)} {oc3 kV3 dc3 pm3 cd3 ct3 : Value}
    {f4 : Addr} {od4 an4 : Option Addr} {sl4 : Array (Option Value)} {oc4 kV4 dc4 pm4 cd4 ct4 : Value}
    {f5 : Addr} {od5 an5 : Option Addr} {sl5 : Array (Option Value)} {oc5 kV5 dc5 pm5 cd5 ct5 : Value}
    {f6 : Addr} {od6 an6 : Option Addr} {sl6 : Array (Option Value)} {oc6 kV6 dc6 pm6 cd6 ct6 : Value}
    {f7 : Addr} {od7 an7 : Option Addr} {sl7 : Array (Option Value)} {oc7 kV7 dc7 pm7 cd7 ct7 : Value}
    {f8 : Addr} {od8 an8 : Option Addr} {sl8 : Array (Option Value)} {oc8 kV8 dc8 pm8 cd8 ct8 : Value}
    {f9 : Addr} {od9 an9 : Option Addr} {sl9 : Array (Option Value)} {oc9 kV9 dc9 pm9 cd9 ct9 : Value}
    {f10 : Addr} {od10 an10 : Option Addr} {sl10 : Array (Option Value)} {oc10 kV10 dc10 pm10 cd10 ct10 : Value}
    {f11 : Addr} {od11 an11 : Option Addr} {sl11 : Array (Option Value)} {oc11 kV11 dc11 pm11 cd11 ct11 : Value}
    {f12 : Addr} {od12 an12 : Option Addr} {sl12 : Array (Option Value)} {oc12 kV12 dc12 pm12 cd12 ct12 : Value}
    {f13 : Addr} {od13 an13 : Option Addr} {sl13 : Array (Option Value)} {oc13 kV13 dc13 pm13 cd13 ct13 : Value}
    {f14 : Addr} {od14 an14 : Option Addr} {sl14 : Array (Option Value)} {oc14 kV14 dc14 pm14 cd14 ct14 : Value}
    {f15 : Addr} {od15 an15 : Option Addr} {sl15 : Array (Option Value)} {oc15 kV15 dc15 pm15 cd15 ct15 : Value}
    {f16 : Addr} {od16 an16 : Option Addr} {sl16 : Array (Option Value)} {oc16 kV16 dc16 pm16 cd16 ct16 : Value}
    {f17 : Addr} {od17 an17 : Option Addr} {sl17 : Array (Option Value)} {oc17 kV17 dc17 pm17 cd17 ct17 : Value}
    {f18 : Addr} {od18 an18 : Option Addr} {sl18 : Array (Option Value)} {oc18 kV18 dc18 pm18 cd18 ct18 : Value}
    {t0 : Tok} (e0 : PySem.W.nsIn K mainGlobals "MOST_ARGUMENTS" = some (some (.int 2 t0)))
    {t1 : Tok} (e1 : PySem.W.nsIn K mainGlobals "MOST_OPERATORS" = some (some (.int 6 t1)))
    (a0 : PySem.W.nsIn K mainGlobals "_law_pen" = some (some (.ref f0))) (l0 : K.lookup f0 = some ⟨oc0, od0, .func (PySem.W.fnOf "_law_pen" "_law_pen" (defArgs s__law_pen) (defBody s__law_pen) (defScope s__law_pen) .none kV0 dc0 pm0 an0 cd0 ct0), sl0⟩) (c0 : PySem.W.codeIn K cd0 "_law_pen" = true) (k0 : PySem.W.keepIn K (.ref f0) = true)
    (a1 : PySem.W.nsIn K mainGlobals "is_integer" = some (some (.ref f1))) (l1 : K.lookup f1 = some ⟨oc1, od1, .func (PySem.W.fnOf "is_integer" "is_integer" (defArgs s_is_integer) (defBody s_is_integer) (defScope s_is_integer) .none kV1 dc1 pm1 an1 cd1 ct1), sl1⟩) (c1 : PySem.W.codeIn K cd1 "is_integer" = true) (k1 : PySem.W.keepIn K (.ref f1) = true)
    (a2 : PySem.W.nsIn K mainGlobals "is_between" = some (some (.ref f2))) (l2 : K.lookup f2 = some ⟨oc2, od2, .func (PySem.W.fnOf "is_between" "is_between" (defArgs s_is_between) (defBody s_is_between) (defScope s_is_between) .none kV2 dc2 pm2 an2 cd2 ct2), sl2⟩) (c2 : PySem.W.codeIn K cd2 "is_between" = true) (k2 : PySem.W.keepIn K (.ref f2) = true)
    (a3 : PySem.W.nsIn K mainGlobals "is_arities" = some (some (.ref f3))) (l3 : K.lookup f3 = some ⟨oc3, od3, .func (PySem.W.fnOf "is_arities" "is_arities" (defArgs s_is_arities) (defBody s_is_arities) (defScope s_is_arities) .none kV3 dc3 pm3 an3 cd3 ct3), sl3⟩) (c3 : PySem.W.codeIn K cd3 "is_arities" = true) (k3 : PySem.W.keepIn K (.ref f3) = true)
    (a4 : PySem.W.nsIn K mainGlobals "need_arities" = some (some (.ref f4))) (l4 : K.lookup f4 = some ⟨oc4, od4, .func (PySem.W.fnOf "need_arities" "need_arities" (defArgs s_need_arities) (defBody s_need_arities) (defScope s_need_arities) .none kV4 dc4 pm4 an4 cd4 ct4), sl4⟩) (c4 : PySem.W.codeIn K cd4 "need_arities" = true) (k4 : PySem.W.keepIn K (.ref f4) = true)
    (a5 : PySem.W.nsIn K mainGlobals "is_operator" = some (some (.ref f5))) (l5 : K.lookup f5 = some ⟨oc5, od5, .func (PySem.W.fnOf "is_operator" "is_operator" (defArgs s_is_operator) (defBody s_is_operator) (defScope s_is_operator) .none kV5 dc5 pm5 an5 cd5 ct5), sl5⟩) (c5 : PySem.W.codeIn K cd5 "is_operator" = true) (k5 : PySem.W.keepIn K (.ref f5) = true)
    (a6 : PySem.W.nsIn K mainGlobals "is_node" = some (some (.ref f6))) (l6 : K.lookup f6 = some ⟨oc6, od6, .func (PySem.W.fnOf "is_node" "is_node" (defArgs s_is_node) (defBody s_is_node) (defScope s_is_node) .none kV6 dc6 pm6 an6 cd6 ct6), sl6⟩) (c6 : PySem.W.codeIn K cd6 "is_node" = true) (k6 : PySem.W.keepIn K (.ref f6) = true)
    (a7 : PySem.W.nsIn K mainGlobals "is_tree" = some (some (.ref f7))) (l7 : K.lookup f7 = some ⟨oc7, od7, .func (PySem.W.fnOf "is_tree" "is_tree" (defArgs s_is_tree) (defBody s_is_tree) (defScope s_is_tree) .none kV7 dc7 pm7 an7 cd7 ct7), sl7⟩) (c7 : PySem.W.codeIn K cd7 "is_tree" = true) (k7 : PySem.W.keepIn K (.ref f7) = true)
    (a8 : PySem.W.nsIn K mainGlobals "is_step" = some (some (.ref f8))) (l8 : K.lookup f8 = some ⟨oc8, od8, .func (PySem.W.fnOf "is_step" "is_step" (defArgs s_is_step) (defBody s_is_step) (defScope s_is_step) .none kV8 dc8 pm8 an8 cd8 ct8), sl8⟩) (c8 : PySem.W.codeIn K cd8 "is_step" = true) (k8 : PySem.W.keepIn K (.ref f8) = true)
    (a9 : PySem.W.nsIn K mainGlobals "is_context" = some (some (.ref f9))) (l9 : K.lookup f9 = some ⟨oc9, od9, .func (PySem.W.fnOf "is_context" "is_context" (defArgs s_is_context) (defBody s_is_context) (defScope s_is_context) .none kV9 dc9 pm9 an9 cd9 ct9), sl9⟩) (c9 : PySem.W.codeIn K cd9 "is_context" = true) (k9 : PySem.W.keepIn K (.ref f9) = true)
    (a10 : PySem.W.nsIn K mainGlobals "_law_refused" = some (some (.ref f10))) (l10 : K.lookup f10 = some ⟨oc10, od10, .func (PySem.W.fnOf "_law_refused" "_law_refused" (defArgs s__law_refused) (defBody s__law_refused) (defScope s__law_refused) .none kV10 dc10 pm10 an10 cd10 ct10), sl10⟩) (c10 : PySem.W.codeIn K cd10 "_law_refused" = true) (k10 : PySem.W.keepIn K (.ref f10) = true)
    (a11 : PySem.W.nsIn K mainGlobals "_law_cell_at" = some (some (.ref f11))) (l11 : K.lookup f11 = some ⟨oc11, od11, .func (PySem.W.fnOf "_law_cell_at" "_law_cell_at" (defArgs s__law_cell_at) (defBody s__law_cell_at) (defScope s__law_cell_at) .none kV11 dc11 pm11 an11 cd11 ct11), sl11⟩) (c11 : PySem.W.codeIn K cd11 "_law_cell_at" = true) (k11 : PySem.W.keepIn K (.ref f11) = true)
    (a12 : PySem.W.nsIn K mainGlobals "_law_draw" = some (some (.ref f12))) (l12 : K.lookup f12 = some ⟨oc12, od12, .func (PySem.W.fnOf "_law_draw" "_law_draw" (defArgs s__law_draw) (defBody s__law_draw) (defScope s__law_draw) .none kV12 dc12 pm12 an12 cd12 ct12), sl12⟩) (c12 : PySem.W.codeIn K cd12 "_law_draw" = true) (k12 : PySem.W.keepIn K (.ref f12) = true)
    (a13 : PySem.W.nsIn K mainGlobals "_law_pick" = some (some (.ref f13))) (l13 : K.lookup f13 = some ⟨oc13, od13, .func (PySem.W.fnOf "_law_pick" "_law_pick" (defArgs s__law_pick) (defBody s__law_pick) (defScope s__law_pick) .none kV13 dc13 pm13 an13 cd13 ct13), sl13⟩) (c13 : PySem.W.codeIn K cd13 "_law_pick" = true) (k13 : PySem.W.keepIn K (.ref f13) = true)
    (a14 : PySem.W.nsIn K mainGlobals "_law_tree" = some (some (.ref f14))) (l14 : K.lookup f14 = some ⟨oc14, od14, .func (PySem.W.fnOf "_law_tree" "_law_tree" (defArgs s__law_tree) (defBody s__law_tree) (defScope s__law_tree) .none kV14 dc14 pm14 an14 cd14 ct14), sl14⟩) (c14 : PySem.W.codeIn K cd14 "_law_tree" = true) (k14 : PySem.W.keepIn K (.ref f14) = true)
    (a15 : PySem.W.nsIn K mainGlobals "_law_context" = some (some (.ref f15))) (l15 : K.lookup f15 = some ⟨oc15, od15, .func (PySem.W.fnOf "_law_context" "_law_context" (defArgs s__law_context) (defBody s__law_context) (defScope s__law_context) .none kV15 dc15 pm15 an15 cd15 ct15), sl15⟩) (c15 : PySem.W.codeIn K cd15 "_law_context" = true) (k15 : PySem.W.keepIn K (.ref f15) = true)
    (a16 : PySem.W.nsIn K mainGlobals "_law_arities" = some (some (.ref f16))) (l16 : K.lookup f16 = some ⟨oc16, od16, .func (PySem.W.fnOf "_law_arities" "_law_arities" (defArgs s__law_arities) (defBody s__law_arities) (defScope s__law_arities) .none kV16 dc16 pm16 an16 cd16 ct16), sl16⟩) (c16 : PySem.W.codeIn K cd16 "_law_arities" = true) (k16 : PySem.W.keepIn K (.ref f16) = true)
    (a17 : PySem.W.nsIn K mainGlobals "_law_odd_ones" = some (some (.ref f17))) (l17 : K.lookup f17 = some ⟨oc17, od17, .func (PySem.W.fnOf "_law_odd_ones" "_law_odd_ones" (defArgs s__law_odd_ones) (defBody s__law_odd_ones) (defScope s__law_odd_ones) .none kV17 dc17 pm17 an17 cd17 ct17), sl17⟩) (c17 : PySem.W.codeIn K cd17 "_law_odd_ones" = true) (k17 : PySem.W.keepIn K (.ref f17) = true)
    (a18 : PySem.W.nsIn K mainGlobals "law" = some (some (.ref f18))) (l18 : K.lookup f18 = some ⟨oc18, od18, .func (PySem.W.fnOf "law" "law" (defArgs s_law) (defBody s_law) (defScope s_law) .none kV18 dc18 pm18 an18 cd18 ct18), sl18⟩) (c18 : PySem.W.codeIn K cd18 "law" = true) (k18 : PySem.W.keepIn K (.ref f18) = true)
    (z0 : PySem.W.nsIn K mainGlobals "len" = some none)
    (z1 : PySem.W.nsIn K mainGlobals "max" = some none)
    (z2 : PySem.W.nsIn K mainGlobals "min" = some none)
    (z3 : PySem.W.nsIn K mainGlobals "sum" = some none)
    (z4 : PySem.W.nsIn K mainGlobals "all" = some none)
    (z5 : PySem.W.nsIn K mainGlobals "tuple" = some none)
    (z6 : PySem.W.nsIn K mainGlobals "list" = some none)
    (z7 : PySem.W.nsIn K mainGlobals "repr" = some none)
    (z8 : PySem.W.nsIn K mainGlobals "isinstance" = some none)
    (z9 : PySem.W.nsIn K mainGlobals "range" = some none)
    (z10 : PySem.W.nsIn K mainGlobals "enumerate" = some none)
    (z11 : PySem.W.nsIn K mainGlobals "int" = some none)
    (z12 : PySem.W.nsIn K mainGlobals "bool" = some none)
    (z13 : PySem.W.nsIn K mainGlobals "str" = some none)
    (z14 : PySem.W.nsIn K mainGlobals "zip" = some none)
    (z15 : PySem.W.nsIn K mainGlobals "any" = some none)
    {A0 : Addr} (q0 : PySem.W.nsIn K mainGlobals "NoArities" = some (some (.ref A0)))
    {A1 : Addr} (q1 : PySem.W.nsIn K mainGlobals "PickError" = some (some (.ref A1)))
    (kb : kwL.all (fun p => kndCB K csL p.1) = true)
    (hT : Tb.T = [])
    : ∃ (fd : FuncData) (cs : List (Addr × Addr)), (∀ p ∈ cs, p.2 ∈ ts ∧ K.lookup p.2 = none ∧ PySem.W.codeHdIn K p.1 p.2 = true) ∧ (∀ t ∈ Tb.T, inT cs t.1) ∧ (∀ (s : Shared) (v : Value), BindsTo s fd ⟨[v], []⟩ [("_law_script", v)]) ∧
      ∀ base : Heap, K.In base → base.Ns mainGlobals mg → (∀ p ∈ cs, LamX.TabB base mg p.1 p.2) → FnG l.prog w K mg base (L2.CX l.prog w) 9 fa fd ["_law_script"] (spF K 1 f_law) := by
  have e := hfa.symm.trans (PySem.W.mg_of X G a18)
  cases e
  have B : Bt mg := ⟨PySem.W.mg_none_of X G z0, PySem.W.mg_none_of X G z1, PySem.W.mg_none_of X G z2, PySem.W.mg_none_of X G z3, PySem.W.mg_none_of X G z4, PySem.W.mg_none_of X G z5, PySem.W.mg_none_of X G z6, PySem.W.mg_none_of X G z7, PySem.W.mg_none_of X G z8, PySem.W.mg_none_of X G z9, PySem.W.mg_none_of X G z10, PySem.W.mg_none_of X G z11, PySem.W.mg_none_of X G z12, PySem.W.mg_none_of X G z13, PySem.W.mg_none_of X G z14, PySem.W.mg_none_of X G z15⟩
  have c_MOST_ARGUMENTS : ∃ t, mg "MOST_ARGUMENTS" = some (.int 2 t) := ⟨_, PySem.W.mg_of X G e0⟩
  have c_MOST_OPERATORS : ∃ t, mg "MOST_OPERATORS" = some (.int 6 t) := ⟨_, PySem.W.mg_of X G e1⟩
  have cm_NoArities := cm_of X G q0
  have cm_PickError := cm_of X G q1
  have kns := knc_of kb
  have kn_NoArities : KndC K csL "NoArities" := kns "NoArities" "arities" (by simp [kwL])
  have F0 := fun_mk (st := s__law_pen) l0 c0 k0
  have b0 := F0.binds (ps := ["_law_cell"]) fun _ _ _ _ _ _ us hl => match us, hl with | [_], _ => rfl
  have m0 := PySem.W.mg_of X G a0
  have F1 := fun_mk (st := s_is_integer) l1 c1 k1
  have b1 := F1.binds (ps := ["thing"]) fun _ _ _ _ _ _ us hl => match us, hl with | [_], _ => rfl
  have m1 := PySem.W.mg_of X G a1
  have F2 := fun_mk (st := s_is_between) l2 c2 k2
  have b2 := F2.binds (ps := ["thing", "least", "most"]) fun _ _ _ _ _ _ us hl => match us, hl with | [_, _, _], _ => rfl
  have m2 := PySem.W.mg_of X G a2
  have F3 := fun_mk (st := s_is_arities) l3 c3 k3
  have b3 := F3.binds (ps := ["thing"]) fun _ _ _ _ _ _ us hl => match us, hl with | [_], _ => rfl
  have m3 := PySem.W.mg_of X G a3
  have F4 := fun_mk (st := s_need_arities) l4 c4 k4
  have b4 := F4.binds (ps := ["arities"]) fun _ _ _ _ _ _ us hl => match us, hl with | [_], _ => rfl
  have m4 := PySem.W.mg_of X G a4
  have F5 := fun_mk (st := s_is_operator) l5 c5 k5
  have b5 := F5.binds (ps := ["arities", "thing"]) fun _ _ _ _ _ _ us hl => match us, hl with | [_, _], _ => rfl
  have m5 := PySem.W.mg_of X G a5
  have F6 := fun_mk (st := s_is_node) l6 c6 k6
  have b6 := F6.binds (ps := ["arities", "place", "thing"]) fun _ _ _ _ _ _ us hl => match us, hl with | [_, _, _], _ => rfl
  have m6 := PySem.W.mg_of X G a6
  have F7 := fun_mk (st := s_is_tree) l7 c7 k7
  have b7 := F7.binds (ps := ["arities", "thing"]) fun _ _ _ _ _ _ us hl => match us, hl with | [_, _], _ => rfl
  have m7 := PySem.W.mg_of X G a7
  have F8 := fun_mk (st := s_is_step) l8 c8 k8
  have b8 := F8.binds (ps := ["arities", "thing"]) fun _ _ _ _ _ _ us hl => match us, hl with | [_, _], _ => rfl
  have m8 := PySem.W.mg_of X G a8
  have F9 := fun_mk (st := s_is_context) l9 c9 k9
  have b9 := F9.binds (ps := ["arities", "thing"]) fun _ _ _ _ _ _ us hl => match us, hl with | [_, _], _ => rfl
  have m9 := PySem.W.mg_of X G a9
  have F10 := fun_mk (st := s__law_refused) l10 c10 k10
  have b10 := F10.binds (ps := ["_law_thing"]) fun _ _ _ _ _ _ us hl => match us, hl with | [_], _ => rfl
  have m10 := PySem.W.mg_of X G a10
  have F11 := fun_mk (st := s__law_cell_at) l11 c11 k11
  have b11 := F11.binds (ps := ["_law_script", "_law_k"]) fun _ _ _ _ _ _ us hl => match us, hl with | [_, _], _ => rfl
  have m11 := PySem.W.mg_of X G a11
  have F12 := fun_mk (st := s__law_draw) l12 c12 k12
  have b12 := F12.binds (ps := ["_law_pen_here", "_law_many"]) fun _ _ _ _ _ _ us hl => match us, hl with | [_, _], _ => rfl
  have m12 := PySem.W.mg_of X G a12
  have F13 := fun_mk (st := s__law_pick) l13 c13 k13
  have b13 := F13.binds (ps := ["_law_pen_here", "_law_some"]) fun _ _ _ _ _ _ us hl => match us, hl with | [_, _], _ => rfl
  have m13 := PySem.W.mg_of X G a13
  have F14 := fun_mk (st := s__law_tree) l14 c14 k14
  have b14 := F14.binds (ps := ["_law_pen_here", "_law_arities_here", "_law_most"]) fun _ _ _ _ _ _ us hl => match us, hl with | [_, _, _], _ => rfl
  have m14 := PySem.W.mg_of X G a14
  have F15 := fun_mk (st := s__law_context) l15 c15 k15
  have b15 := F15.binds (ps := ["_law_pen_here", "_law_arities_here", "_law_most"]) fun _ _ _ _ _ _ us hl => match us, hl with | [_, _, _], _ => rfl
  have m15 := PySem.W.mg_of X G a15
  have F16 := fun_mk (st := s__law_arities) l16 c16 k16
  have b16 := F16.binds (ps := ["_law_pen_here"]) fun _ _ _ _ _ _ us hl => match us, hl with | [_], _ => rfl
  have m16 := PySem.W.mg_of X G a16
  have F17 := fun_mk (st := s__law_odd_ones) l17 c17 k17
  have b17 := F17.binds (ps := ["_law_arities_here", "_law_leg"]) fun _ _ _ _ _ _ us hl => match us, hl with | [_, _], _ => rfl
  have m17 := PySem.W.mg_of X G a17
  have F18 := fun_mk (st := s_law) l18 c18 k18
  refine ⟨PySem.W.fnOf "law" "law" (defArgs s_law) (defBody s_law) (defScope s_law) .none kV18 dc18 pm18 an18 cd18 ct18, [], fun p hp => ?_, fun t ht => ?_, fun s v => .of_eq rfl, fun base _ _ TBs => ?_⟩
  · exact absurd hp List.not_mem_nil
  · rw [hT] at ht; exact absurd ht List.not_mem_nil
  · skip
    have d__law_pen : Df l.prog w K mg base "_law_pen" 1 1 f__law_pen := ⟨_, _, _, m0, k0, b0, g__law_pen B  F0⟩
    have d_is_integer : Df l.prog w K mg base "is_integer" 1 1 f_is_integer := ⟨_, _, _, m1, k1, b1, g_is_integer B  F1⟩
    have d_is_between : Df l.prog w K mg base "is_between" 2 3 f_is_between := ⟨_, _, _, m2, k2, b2, g_is_between B d_is_integer F2⟩
    have d_is_arities : Df l.prog w K mg base "is_arities" 3 1 f_is_arities := ⟨_, _, _, m3, k3, b3, g_is_arities B c_MOST_ARGUMENTS c_MOST_OPERATORS d_is_between F3⟩
    have d_need_arities : Df l.prog w K mg base "need_arities" 4 1 f_need_arities := ⟨_, _, _, m4, k4, b4, g_need_arities B cm_NoArities kn_NoArities d_is_arities F4⟩
    have d_is_operator : Df l.prog w K mg base "is_operator" 3 2 f_is_operator := ⟨_, _, _, m5, k5, b5, g_is_operator B d_is_between F5⟩
    have d_is_node : Df l.prog w K mg base "is_node" 4 3 f_is_node := ⟨_, _, _, m6, k6, b6, g_is_node B d_is_operator d_is_between F6⟩
    have d_is_tree : Df l.prog w K mg base "is_tree" 5 2 f_is_tree := ⟨_, _, _, m7, k7, b7, g_is_tree B d_need_arities d_is_node F7⟩
    have d_is_step : Df l.prog w K mg base "is_step" 6 2 f_is_step := ⟨_, _, _, m8, k8, b8, g_is_step B d_is_operator d_is_between d_is_tree F8⟩
    have d_is_context : Df l.prog w K mg base "is_context" 7 2 f_is_context := ⟨_, _, _, m9, k9, b9, g_is_context B d_need_arities d_is_step F9⟩
    have d__law_refused : Df l.prog w K mg base "_law_refused" 8 1 f__law_refused := ⟨_, _, _, m10, k10, b10, g__law_refused B cm_NoArities cm_PickError kns d_is_context F10⟩
    have d__law_cell_at : Df l.prog w K mg base "_law_cell_at" 1 2 f__law_cell_at := ⟨_, _, _, m11, k11, b11, g__law_cell_at B  F11⟩
    have d__law_draw : Df l.prog w K mg base "_law_draw" 1 2 f__law_draw := ⟨_, _, _, m12, k12, b12, g__law_draw B  F12⟩
    have d__law_pick : Df l.prog w K mg base "_law_pick" 2 2 f__law_pick := ⟨_, _, _, m13, k13, b13, g__law_pick B d__law_draw F13⟩
    have d__law_tree : Df l.prog w K mg base "_law_tree" 3 3 f__law_tree := ⟨_, _, _, m14, k14, b14, g__law_tree B d__law_draw d__law_pick F14⟩
    have d__law_context : Df l.prog w K mg base "_law_context" 4 3 f__law_context := ⟨_, _, _, m15, k15, b15, g__law_context B d__law_pick d__law_draw d__law_tree F15⟩
    have d__law_arities : Df l.prog w K mg base "_law_arities" 3 1 f__law_arities := ⟨_, _, _, m16, k16, b16, g__law_arities B d__law_draw d__law_pick F16⟩
    have d__law_odd_ones : Df l.prog w K mg base "_law_odd_ones" 1 2 f__law_odd_ones := ⟨_, _, _, m17, k17, b17, g__law_odd_ones B  F17⟩
    exact g_law B d__law_pen d__law_refused d__law_cell_at d__law_context d__law_arities d_is_context d__law_odd_ones F18
abbrev tb : Tb := ⟨[]⟩
end M2
set_option Elab.async false
open PySem PySem.W PyProof.Rows
set_option maxRecDepth 100000 in
set_option maxHeartbeats 0 in
theorem PySem.Challenge.cw_codepick_k40_contexts_known_holds : PySem.Challenge.rw_codepick_k40_contexts_known.Holds := by
  w_on; o_law; k_head; (case hw => w_witness2)
  k_fill
  refine @M2.lawWalkT M2.tb PySem.Challenge.rw_codepick_k40_contexts_known _ _ _ _ _ _ ([] : List Addr) 9 M2.f_law rfl rfl ⟨rfl, by decide, by decide⟩ (fun w h Y => ⟨PySem.W.kIn_of Y, fun P hP => absurd hP List.not_mem_nil⟩) (fun ns h => @M2.main M2.tb ns h) ?F
  case F =>
    intro w mg fa h KX G hmg
    letI : M2.Tb := M2.tb
    refine' M2.all_mk KX G hmg  ?e0 ?e1 ?a0 ?l0 ?c0 ?k0 ?a1 ?l1 ?c1 ?k1 ?a2 ?l2 ?c2 ?k2 ?a3 ?l3 ?c3 ?k3 ?a4 ?l4 ?c4 ?k4 ?a5 ?l5 ?c5 ?k5 ?a6 ?l6 ?c6 ?k6 ?a7 ?l7 ?c7 ?k7 ?a8 ?l8 ?c8 ?k8 ?a9 ?l9 ?c9 ?k9 ?a10 ?l10 ?c10 ?k10 ?a11 ?l11 ?c11 ?k11 ?a12 ?l12 ?c12 ?k12 ?a13 ?l13 ?c13 ?k13 ?a14 ?l14 ?c14 ?k14 ?a15 ?l15 ?c15 ?k15 ?a16 ?l16 ?c16 ?k16 ?a17 ?l17 ?c17 ?k17 ?a18 ?l18 ?c18 ?k18 ?z0 ?z1 ?z2 ?z3 ?z4 ?z5 ?z6 ?z7 ?z8 ?z9 ?z10 ?z11 ?z12 ?z13 ?z14 ?z15 ?q0 ?q1 ?kb ?hT
    (case e0 => k_is); (case e1 => k_is); (case a0 => k_is); (case l0 => k_is); (case c0 => k_is); (case k0 => k_is)
    (case a1 => k_is); (case l1 => k_is); (case c1 => k_is); (case k1 => k_is); (case a2 => k_is); (case l2 => k_is)
    (case c2 => k_is); (case k2 => k_is); (case a3 => k_is); (case l3 => k_is); (case c3 => k_is); (case k3 => k_is)
    (case a4 => k_is); (case l4 => k_is); (case c4 => k_is); (case k4 => k_is); (case a5 => k_is); (case l5 => k_is)
    (case c5 => k_is); (case k5 => k_is); (case a6 => k_is); (case l6 => k_is); (case c6 => k_is); (case k6 => k_is)
    (case a7 => k_is); (case l7 => k_is); (case c7 => k_is); (case k7 => k_is); (case a8 => k_is); (case l8 => k_is)
    (case c8 => k_is); (case k8 => k_is); (case a9 => k_is); (case l9 => k_is); (case c9 => k_is); (case k9 => k_is)
    (case a10 => k_is); (case l10 => k_is); (case c10 => k_is); (case k10 => k_is); (case a11 => k_is); (case l11 => k_is)
    (case c11 => k_is); (case k11 => k_is); (case a12 => k_is); (case l12 => k_is); (case c12 => k_is); (case k12 => k_is)
    (case a13 => k_is); (case l13 => k_is); (case c13 => k_is); (case k13 => k_is); (case a14 => k_is); (case l14 => k_is)
    (case c14 => k_is); (case k14 => k_is); (case a15 => k_is); (case l15 => k_is); (case c15 => k_is); (case k15 => k_is)
    (case a16 => k_is); (case l16 => k_is); (case c16 => k_is); (case k16 => k_is); (case a17 => k_is); (case l17 => k_is)
    (case c17 => k_is); (case k17 => k_is); (case a18 => k_is); (case l18 => k_is); (case c18 => k_is); (case k18 => k_is)
    (case z0 => k_is); (case z1 => k_is); (case z2 => k_is); (case z3 => k_is); (case z4 => k_is); (case z5 => k_is)
    (case z6 => k_is); (case z7 => k_is); (case z8 => k_is); (case z9 => k_is); (case z10 => k_is); (case z11 => k_is)
    (case z12 => k_is); (case z13 => k_is); (case z14 => k_is); (case z15 => k_is); (case q0 => k_is); (case q1 => k_is)
    (case kb => kernel_rfl); (case hT => rfl)
