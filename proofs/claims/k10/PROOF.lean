import PyProof.Rows.All
import Wide.All
import OpenK.AllK
import Wide.FinOn
import HandS.ForMost
import HandS.Evl
import HandS.IsInst
import HandS.TupAny
import HandS.Conv
import HandS.RevRange
import HandS.Walk
import HandS.Style
import PyProof.CollectIter
import KE.KDictList
import KE.KRevSl
import HandS.List
import PyProof.ReprRoads
import PyProof.CallFns
import PySem.Challenge.RW_deadlevers_k10_whole_drawn_settings_coun
import HandS.SortInts
import KE.SortData
import HandS.Exc
import HandS.ExcOwn
import HandS.ExcIs
import HandS.ExcField
import KE.KExcIs
import HandS.Words
import HandS.Ends
import HandS.WordsExc
import PyProof.Rows.RegFStrParts
import KE.KTupSum
set_option Elab.async false
set_option maxRecDepth 100000
set_option maxHeartbeats 2000000
set_option linter.all false
/-! Data that stands still, beside objects that change: S are the addresses of what may change; data is what is told without them. -/
namespace Dt
open PySem L2 Evl

/-- the heap without some addresses -/
def cut (S : List Addr) (H : Hp) : Hp := fun b => if b ∈ S then none else H b
theorem cut_in {S : List Addr} {H : Hp} {b : Addr} (h : b ∈ S) : cut S H b = none := if_pos h
theorem cut_out {S : List Addr} {H : Hp} {b : Addr} (h : b ∉ S) : cut S H b = H b := if_neg h
theorem cut_some {S : List Addr} {H : Hp} {b : Addr} {o : HO} (h : cut S H b = some o) : b ∉ S ∧ H b = some o := by
  by_cases hb : b ∈ S
  · rw [cut_in hb] at h; cases h
  · rw [cut_out hb] at h; exact ⟨hb, h⟩
theorem cut_le (S : List Addr) (H : Hp) : Ex (cut S H) H := fun _ _ h => (cut_some h).2
theorem cut_nil (H : Hp) : cut [] H = H := by funext b; exact cut_out (by simp)
theorem cut_mono {S : List Addr} {H H' : Hp} (e : Ex H H') : Ex (cut S H) (cut S H') := fun b o h => by
  obtain ⟨h1, h2⟩ := cut_some h
  rw [cut_out h1]; exact e b o h2
theorem cut_upd {S : List Addr} {H : Hp} {l : Addr} {o : HO} (h : l ∈ S) : cut S (upd H l o) = cut S H := by
  funext b
  by_cases hb : b ∈ S
  · rw [cut_in hb, cut_in hb]
  · rw [cut_out hb, cut_out hb, upd_ne (fun e => hb (by rw [e]; exact h))]
theorem cut_new {S : List Addr} {H : Hp} {l : Addr} {o : HO} (h : l ∉ S) : cut S (upd H l o) = upd (cut S H) l o := by
  funext b
  by_cases hl : b = l
  · subst hl; rw [cut_out h, upd_same, upd_same]
  · by_cases hb : b ∈ S
    · rw [cut_in hb, upd_ne hl, cut_in hb]
    · rw [cut_out hb, upd_ne hl, upd_ne hl, cut_out hb]
/-- fewer addresses taken out -/
theorem cut_sub {S S' : List Addr} {H : Hp} (h : ∀ b ∈ S, b ∈ S') : Ex (cut S' H) (cut S H) := fun b o q => by
  obtain ⟨h1, h2⟩ := cut_some q
  rw [cut_out (fun z => h1 (h b z))]; exact h2
/-- all of S is tracked -/
def Dom (S : List Addr) (H : Hp) : Prop := ∀ b ∈ S, H b ≠ none
theorem Dom.nil {H : Hp} : Dom [] H := fun _ h => nomatch h
theorem Dom.mono {S : List Addr} {H H' : Hp} (d : Dom S H) (e : Ex H H') : Dom S H' := fun b hb h => by
  cases q : H b with
  | none => exact d b hb q
  | some o => rw [e b o q] at h; cases h
theorem Dom.new {S : List Addr} {H : Hp} {p : Addr} (d : Dom S H) (h : H p = none) : p ∉ S := fun z => d p z h
theorem Dom.cons {S : List Addr} {H : Hp} {p : Addr} {o : HO} (d : Dom S H) (h : H p = some o) : Dom (p :: S) H := fun b hb => by
  rcases List.mem_cons.mp hb with e | e
  · rw [e, h]; exact fun z => nomatch z
  · exact d b e
theorem Dom.upd {S : List Addr} {H : Hp} {p : Addr} {o : HO} (d : Dom S H) : Dom S (L2.upd H p o) := fun b hb h => by
  by_cases e : b = p
  · subst e; rw [upd_same] at h; cases h
  · rw [upd_ne e] at h; exact d b hb h

/-! ### data -/
mutual
theorem dp_mono {K : PySem.W.Frag} {H H' : Hp} (e : Ex H H') : ∀ (d : PyData) {v : V}, Dp K H v d → Dp K H' v d
  | .none, _, h => by cases h; exact .non
  | .bool _, _, h => by cases h; exact .bl _
  | .int _, _, h => by cases h; exact .int _
  | .str _, _, h => by cases h; exact .str _
  | .list ds, _, h => by
    cases h with
    | lst hs ha => exact .lst (ex_l e hs) (dpa_mono e ds ha)
  | .tuple ds, _, h => by
    cases h with
    | tup hs ha => exact .tup (ex_t e hs) (dpa_mono e ds ha)
  | .dict _, _, h => by cases h
theorem dpa_mono {K : PySem.W.Frag} {H H' : Hp} (e : Ex H H') : ∀ (ds : List PyData) {vs : List V}, DpAll K H vs ds → DpAll K H' vs ds
  | [], _, h => by cases h; exact .nil
  | d :: ds, _, h => by
    cases h with
    | cons h1 h2 => exact .cons (dp_mono e d h1) (dpa_mono e ds h2)
end
section
variable {K : PySem.W.Frag} {H H' : Hp} {v : V} {vs : List V} {d : PyData} {ds es : List PyData}
theorem dp_int {i : Int} (h : Dp K H v (.int i)) : v = .int i := by cases h; rfl
theorem dp_bl {i : Bool} (h : Dp K H v (.bool i)) : v = .bl i := by cases h; rfl
theorem dp_str {i : Str} (h : Dp K H v (.str i)) : v = .str i := by cases h; rfl
theorem dp_non (h : Dp K H v .none) : v = .non := by cases h; rfl
theorem dp_tup (h : Dp K H v (.tuple ds)) : ∃ a xs, v = .ref a ∧ SqT K H a xs ∧ DpAll K H xs ds := by
  cases h with
  | tup hs ha => exact ⟨_, _, rfl, hs, ha⟩
theorem dp_lst (h : Dp K H v (.list ds)) : ∃ a xs, v = .ref a ∧ SqL K H a xs ∧ DpAll K H xs ds := by
  cases h with
  | lst hs ha => exact ⟨_, _, rfl, hs, ha⟩
theorem dpa_len : ∀ {vs : List V} {ds : List PyData}, DpAll K H vs ds → vs.length = ds.length
  | _, _, .nil => rfl
  | _, _, .cons _ t => by simp [dpa_len t]
theorem dpa_get : ∀ {vs : List V} {ds : List PyData} {i : Nat} {d : PyData}, DpAll K H vs ds → ds[i]? = some d → ∃ v, vs[i]? = some v ∧ Dp K H v d
  | _, _, _, _, .nil, h => by simp at h
  | _, _, 0, _, .cons h1 _, h => by
    simp at h; subst h; exact ⟨_, rfl, h1⟩
  | _, _, i + 1, _, .cons _ t, h => by
    obtain ⟨v, e, q⟩ := dpa_get (i := i) t (by simpa using h)
    exact ⟨v, by simpa using e, q⟩
theorem dpa_got : ∀ {vs : List V} {ds : List PyData} {i : Nat} {v : V}, DpAll K H vs ds → vs[i]? = some v → ∃ d, ds[i]? = some d ∧ Dp K H v d
  | _, _, _, _, .nil, h => by simp at h
  | _, _, 0, _, .cons h1 _, h => by
    simp at h; subst h; exact ⟨_, rfl, h1⟩
  | _, _, i + 1, _, .cons _ t, h => by
    obtain ⟨v, e, q⟩ := dpa_got (i := i) t (by simpa using h)
    exact ⟨v, by simpa using e, q⟩
theorem dpa_app : ∀ {vs us : List V} {ds es : List PyData}, DpAll K H vs ds → DpAll K H us es → DpAll K H (vs ++ us) (ds ++ es)
  | _, _, _, _, .nil, h => h
  | _, _, _, _, .cons h1 t, h => .cons h1 (dpa_app t h)
theorem dpa_one {v : V} {d : PyData} (h : Dp K H v d) : DpAll K H [v] [d] := .cons h .nil
theorem dpa_take : ∀ {vs : List V} {ds : List PyData} (n : Nat), DpAll K H vs ds → DpAll K H (vs.take n) (ds.take n)
  | _, _, 0, _ => .nil
  | _, _, _ + 1, .nil => .nil
  | _, _, n + 1, .cons h t => .cons h (dpa_take n t)
theorem dpa_drop : ∀ {vs : List V} {ds : List PyData} (n : Nat), DpAll K H vs ds → DpAll K H (vs.drop n) (ds.drop n)
  | _, _, 0, h => h
  | _, _, _ + 1, .nil => .nil
  | _, _, n + 1, .cons _ t => dpa_drop n t
theorem dpa_set : ∀ {vs : List V} {ds : List PyData} (n : Nat) {v : V} {d : PyData}, DpAll K H vs ds → Dp K H v d → DpAll K H (vs.set n v) (ds.set n d)
  | _, _, _, _, _, .nil, _ => .nil
  | _, _, 0, _, _, .cons _ t, q => .cons q t
  | _, _, n + 1, _, _, .cons h t, q => .cons h (dpa_set n t q)
theorem dpa_rep {v : V} {d : PyData} (h : Dp K H v d) : ∀ n : Nat, DpAll K H (List.replicate n v) (List.replicate n d)
  | 0 => .nil
  | n + 1 => by rw [List.replicate_succ, List.replicate_succ]; exact .cons h (dpa_rep h n)
/-- nums as data -/
def nums (ns : List Int) : List PyData := ns.map .int
theorem dpa_ints : ∀ {vs : List V} {ns : List Int}, DpAll K H vs (nums ns) → vs = ns.map V.int
  | _, [], h => by cases h; rfl
  | _, n :: ns, h => by
    cases h with
    | cons h1 t => rw [dp_int h1, dpa_ints t]; rfl
theorem nums_dpa : ∀ ns : List Int, DpAll K H (ns.map V.int) (nums ns)
  | [] => .nil
  | n :: ns => .cons (.int n) (nums_dpa ns)
/-- a new tuple, a new list -/
theorem dp_newT {S : List Addr} {p : Addr} (D : Dom S H) (hp : H p = none) (h : DpAll K (cut S H) vs ds) : Dp K (cut S (upd H p (.tup vs))) (.ref p) (.tuple ds) := by
  have hS := D.new hp
  have e : Ex (cut S H) (cut S (upd H p (.tup vs))) := cut_mono (Ex.new hp)
  exact .tup (st_of (by rw [cut_out hS, upd_same])) (dpa_mono e _ h)
theorem dp_newL {S : List Addr} {p : Addr} (D : Dom S H) (hp : H p = none) (h : DpAll K (cut S H) vs ds) : Dp K (cut S (upd H p (.lst vs))) (.ref p) (.list ds) := by
  have hS := D.new hp
  have e : Ex (cut S H) (cut S (upd H p (.lst vs))) := cut_mono (Ex.new hp)
  exact .lst (sq_of (by rw [cut_out hS, upd_same])) (dpa_mono e _ h)
end

/-! ### what evaluates to which data -/
def EvP (S : List Addr) (te : TE) (σ : L2.St) (H : Hp) (φ : V → Hp → Prop) : Prop := ∀ H1, Ex H H1 → ∀ Q : VK, (∀ v H2, Ex H1 H2 → φ v (cut S H2) → Q v H2) → te σ H1 Q
def EvD (K : PySem.W.Frag) (S : List Addr) (te : TE) (σ : L2.St) (H : Hp) (d : PyData) : Prop := EvP S te σ H (fun v h => Dp K h v d)
def EvDA (K : PySem.W.Frag) (S : List Addr) (ta : TA) (σ : L2.St) (H : Hp) (ds : List PyData) : Prop := ∀ H1, Ex H H1 → ∀ Q : List V → Hp → Prop, (∀ vs H2, Ex H1 H2 → DpAll K (cut S H2) vs ds → Q vs H2) → ta σ H1 Q
section
variable {K : PySem.W.Frag} {S : List Addr} {σ : L2.St} {H H' : Hp} {ta tb te : TE} {t u : TT} {v : V} {d e : PyData} {ds es : List PyData} {tas : TA} {φ : V → Hp → Prop}
theorem EvP.mono (e : Ex H H') (h : EvP S te σ H φ) : EvP S te σ H' φ := fun H1 a Q q => h H1 (e.trans a) Q q
theorem EvD.mono (e : Ex H H') (h : EvD K S te σ H d) : EvD K S te σ H' d := fun H1 a Q q => h H1 (e.trans a) Q q
theorem EvDA.mono (e : Ex H H') (h : EvDA K S tas σ H ds) : EvDA K S tas σ H' ds := fun H1 a Q q => h H1 (e.trans a) Q q
theorem EvP.imp {ψ : V → Hp → Prop} (h : EvP S te σ H φ) (i : ∀ v h, φ v h → ψ v h) : EvP S te σ H ψ := fun H1 a Q q => h H1 a Q fun v H2 e2 f => q v H2 e2 (i _ _ f)
/-- a value that is known -/
theorem ed_ev (h : Ev te σ H v) (hd : Dp K (cut S H) v d) : EvD K S te σ H d := fun H1 e Q q => h H1 e Q fun H2 e2 => q v H2 e2 (dp_mono (cut_mono (e.trans e2)) d hd)
theorem ed_var {i : Nat} (h : σ[i]? = some (some v)) (hd : Dp K (cut S H) v d) : EvD K S (tVar i) σ H d := ed_ev (ev_var h) hd
theorem ed_c (hd : ∀ h, Dp K h v d) : EvD K S (tC v) σ H d := ed_ev ev_c (hd _)
theorem ed_int {i : Int} : EvD K S (tC (.int i)) σ H (.int i) := ed_c fun _ => .int i
theorem ed_bl {i : Bool} : EvD K S (tC (.bl i)) σ H (.bool i) := ed_c fun _ => .bl i
theorem ed_str {i : Str} : EvD K S (tC (.str i)) σ H (.str i) := ed_c fun _ => .str i
theorem ed_non : EvD K S (tC .non) σ H .none := ed_c fun _ => .non
theorem EvD.int {i : Int} (h : EvD K S te σ H (.int i)) : Ev te σ H (.int i) := fun H1 e Q q => h H1 e Q fun v H2 e2 f => by rw [dp_int f]; exact q H2 e2
theorem EvD.bl {i : Bool} (h : EvD K S te σ H (.bool i)) : Ev te σ H (.bl i) := fun H1 e Q q => h H1 e Q fun v H2 e2 f => by rw [dp_bl f]; exact q H2 e2
theorem EvD.str {i : Str} (h : EvD K S te σ H (.str i)) : Ev te σ H (.str i) := fun H1 e Q q => h H1 e Q fun v H2 e2 f => by rw [dp_str f]; exact q H2 e2
theorem ed_I {i : Int} (h : Ev te σ H (.int i)) : EvD K S te σ H (.int i) := ed_ev h (.int i)
theorem ed_B {i : Bool} (h : Ev te σ H (.bl i)) : EvD K S te σ H (.bool i) := ed_ev h (.bl i)
theorem ed_is (h : EvD K S te σ H d) (q : d = e) : EvD K S te σ H e := q ▸ h
theorem eda_nil : EvDA K S tNil σ H [] := fun H1 _ Q q => q [] H1 (Ex.refl H1) .nil
theorem eda_cons (h : EvD K S te σ H d) (hr : EvDA K S tas σ H ds) : EvDA K S (tCons te tas) σ H (d :: ds) := fun H1 e Q q =>
  h H1 e _ fun v H2 e2 f => hr H2 (e.trans e2) _ fun vs H3 e3 g => q _ H3 (e2.trans e3) (.cons (dp_mono (cut_mono e3) d f) g)
theorem ed_tup (D : Dom S H) (h : EvDA K S tas σ H ds) (hl : ds.length ≤ 100000) : EvD K S (tTup tas) σ H (.tuple ds) := fun H1 e Q q =>
  h H1 e _ fun vs H2 e2 f => ⟨by rw [dpa_len f]; exact sz_of hl, fun p hp => q _ _ (e2.trans (Ex.new hp)) (dp_newT (D.mono (e.trans e2)) hp f)⟩
theorem ed_lst (D : Dom S H) (h : EvDA K S tas σ H ds) (hl : ds.length ≤ 100000) : EvD K S (tLst tas) σ H (.list ds) := fun H1 e Q q =>
  h H1 e _ fun vs H2 e2 f => ⟨by rw [dpa_len f]; exact sz_of hl, fun p hp => q _ _ (e2.trans (Ex.new hp)) (dp_newL (D.mono (e.trans e2)) hp f)⟩
/-- two operands -/
theorem ed_op {r : R2} {d1 d2 : PyData} (ha : EvD K S ta σ H d1) (hb : EvD K S tb σ H d2) (hr : ∀ x y H1, Ex H H1 → Dp K (cut S H1) x d1 → Dp K (cut S H1) y d2 → ∀ Q : VK, (∀ v H2, Ex H1 H2 → Dp K (cut S H2) v d → Q v H2) → r x y H1 Q) :
    EvD K S (tOp r ta tb) σ H d := fun H1 e Q q =>
  ha H1 e _ fun x H2 e2 f => hb H2 (e.trans e2) _ fun y H3 e3 g => hr x y H3 ((e.trans e2).trans e3) (dp_mono (cut_mono e3) _ f) g Q fun v H4 e4 z => q v H4 ((e2.trans e3).trans e4) z
theorem atI_dpa {vs : List V} {i : Int} {h : Hp} (f : DpAll K h vs ds) (q : atI ds i = some d) : ∃ v, atI vs i = some v ∧ Dp K h v d := by
  unfold atI at q ⊢
  rw [dpa_len f]
  cases e : ixN ds.length i with
  | none => rw [e] at q; cases q
  | some j =>
    rw [e] at q
    exact dpa_get f q
theorem ed_ixT {i : Int} (ha : EvD K S ta σ H (.tuple ds)) (hb : EvD K S tb σ H (.int i)) (q : atI ds i = some d) : EvD K S (tOp (rIxT K) ta tb) σ H d :=
  ed_op ha hb fun x y H1 e f g Q k => by
    obtain ⟨a, xs, rfl, hs, hx⟩ := dp_tup f
    obtain rfl := dp_int g
    obtain ⟨v, hv, hd⟩ := atI_dpa hx q
    exact ⟨a, xs, i, v, rfl, rfl, ex_t (cut_le S H1) hs, hv, k v H1 (Ex.refl H1) hd⟩
theorem ed_ixL {i : Int} (ha : EvD K S ta σ H (.list ds)) (hb : EvD K S tb σ H (.int i)) (q : atI ds i = some d) : EvD K S (tOp (rIxL K) ta tb) σ H d :=
  ed_op ha hb fun x y H1 e f g Q k => by
    obtain ⟨a, xs, rfl, hs, hx⟩ := dp_lst f
    obtain rfl := dp_int g
    obtain ⟨v, hv, hd⟩ := atI_dpa hx q
    exact ⟨a, xs, i, v, rfl, rfl, ex_l (cut_le S H1) hs, hv, k v H1 (Ex.refl H1) hd⟩
/-- an item of a list that may change (in S or not), whose items are data -/
theorem ed_ixM {a : Addr} {vs : List V} {i : Int} (ha : Ev ta σ H (.ref a)) (hl : H a = some (.lst vs)) (hv : DpAll K (cut S H) vs ds) (hb : EvD K S tb σ H (.int i)) (q : atI ds i = some d) : EvD K S (tOp (rIxL K) ta tb) σ H d := fun H1 e Q k =>
  ha H1 e _ fun H2 e2 => hb H2 (e.trans e2) _ fun y H3 e3 g => by
    obtain rfl := dp_int g
    have e0 := (e.trans e2).trans e3
    obtain ⟨v, hv', hd⟩ := atI_dpa (dpa_mono (cut_mono e0) _ hv) q
    exact ⟨a, vs, i, v, rfl, rfl, sq_of (e0 a _ hl), hv', k v H3 (e2.trans e3) hd⟩
/-- ==, != of data -/
theorem ev_eqD (ha : EvD K S ta σ H d) (hb : EvD K S tb σ H e) (s1 : SeqAt.shaped d = true) (s2 : SeqAt.shaped e = true) : Ev (tOp (rEqD K) ta tb) σ H (.bl (PyData.eqv d e)) := fun H1 x Q q =>
  ha H1 x _ fun v H2 e2 f => hb H2 (x.trans e2) _ fun w H3 e3 g => ⟨d, e, dp_mono (cut_le S H3) _ (dp_mono (cut_mono e3) _ f), dp_mono (cut_le S H3) _ g, s1, s2, q H3 (e2.trans e3)⟩
theorem ev_neD (ha : EvD K S ta σ H d) (hb : EvD K S tb σ H e) (s1 : SeqAt.shaped d = true) (s2 : SeqAt.shaped e = true) : Ev (tOp (rNeD K) ta tb) σ H (.bl (!PyData.eqv d e)) := fun H1 x Q q =>
  ha H1 x _ fun v H2 e2 f => hb H2 (x.trans e2) _ fun w H3 e3 g => ⟨d, e, dp_mono (cut_le S H3) _ (dp_mono (cut_mono e3) _ f), dp_mono (cut_le S H3) _ g, s1, s2, q H3 (e2.trans e3)⟩
/-- a conditional expression -/
theorem ed_if {b : Bool} (h : EvT t σ H b) (h1 : b = true → EvD K S ta σ H d) (h2 : b = false → EvD K S tb σ H d) : EvD K S (tIf t ta tb) σ H d := fun H1 e Q q => h H1 e _ fun H2 e2 => by
  cases b with
  | true => exact h1 rfl H2 (e.trans e2) Q fun v H3 e3 f => q v H3 (e2.trans e3) f
  | false => exact h2 rfl H2 (e.trans e2) Q fun v H3 e3 f => q v H3 (e2.trans e3) f
/-- a built-in's call -/
theorem ed_cb {r : List V → Hp → VK → Prop} (h : EvDA K S tas σ H ds) (hr : ∀ vs H1, Ex H H1 → DpAll K (cut S H1) vs ds → ∀ Q : VK, (∀ v H2, Ex H1 H2 → Dp K (cut S H2) v d → Q v H2) → r vs H1 Q) : EvD K S (tCB r tas) σ H d := fun H1 e Q q =>
  h H1 e _ fun vs H2 e2 f => hr vs H2 (e.trans e2) f Q fun v H3 e3 g => q v H3 (e2.trans e3) g
/-- the promise of a def that takes data and hands back data: R tells which -/
def spD (K : PySem.W.Frag) (R : List PyData → PyData → Prop) : Sp := fun vs H Q _ => ∃ (S : List Addr) (ds : List PyData) (d : PyData), Dom S H ∧ DpAll K (cut S H) vs ds ∧ R ds d ∧ ∀ v H2, Ex H H2 → Dp K (cut S H2) v d → Q v H2
theorem ed_call {R : List PyData → PyData → Prop} {E : XK} (D : Dom S H) (h : EvDA K S tas σ H ds) (hR : R ds d) : EvD K S (tCall (spD K R) [] E tas) σ H d := fun H1 e Q q =>
  h H1 e _ fun vs H2 e2 f => by
    rw [List.append_nil]
    exact ⟨S, ds, d, D.mono (e.trans e2), f, hR, fun v H3 e3 g => q v H3 (e2.trans e3) g⟩
theorem et_eqD (ha : EvD K S ta σ H d) (hb : EvD K S tb σ H e) (s1 : SeqAt.shaped d = true) (s2 : SeqAt.shaped e = true) : EvT (tTest (tOp (rEqD K) ta tb)) σ H (PyData.eqv d e) := et_test (ev_eqD ha hb s1 s2)
theorem et_neD (ha : EvD K S ta σ H d) (hb : EvD K S tb σ H e) (s1 : SeqAt.shaped d = true) (s2 : SeqAt.shaped e = true) : EvT (tTest (tOp (rNeD K) ta tb)) σ H (!PyData.eqv d e) := et_test (ev_neD ha hb s1 s2)
/-! statements -/
variable {D : Ends} {tz : TS}
theorem sd_asg {i : Nat} (h : EvD K S te σ H d) (k : ∀ v H1, Ex H H1 → Dp K (cut S H1) v d → D.nx (σ.set i (some v)) H1) : tAsg te (gName i) D σ H := h H (Ex.refl H) _ k
theorem qd_asg {i : Nat} (h : EvD K S te σ H d) (k : ∀ v H1, Ex H H1 → Dp K (cut S H1) v d → tz D (σ.set i (some v)) H1) : tSeq (tAsg te (gName i)) tz D σ H := h H (Ex.refl H) _ k
theorem sd_ret (h : EvD K S te σ H d) (k : ∀ v H1, Ex H H1 → Dp K (cut S H1) v d → D.rt v H1) : tRet te D σ H := h H (Ex.refl H) _ k
end
end Dt

set_option Elab.async false
set_option maxRecDepth 100000
set_option maxHeartbeats 2000000
set_option linter.all false
namespace Dt
open PySem L2 Evl

/-! ### a def of the module, as its callers see it -/
def Has (P : Program) (w : World) (K : PySem.W.Frag) (mg : Str → Option Value) (base : Heap) (k : Nat) (x : Str) (ps : List Str) (sp : Sp) : Prop :=
  ∃ f fd, FnOk P w K mg base CX0 k f fd ps sp ∧ mg x = some (.ref f) ∧ PySem.W.keepIn K (.ref f) = true ∧ Binds K fd ps []
theorem Has.mono {P : Program} {w : World} {K : PySem.W.Frag} {mg : Str → Option Value} {base : Heap} {j k : Nat} {x : Str} {ps : List Str} {sp : Sp} (h : Has P w K mg base j x ps sp) (l : j ≤ k) : Has P w K mg base k x ps sp :=
  let ⟨f, fd, F, a, b, c⟩ := h
  ⟨f, fd, F.mono l, a, b, c⟩
section
variable {X : Cx} {k : Nat} {x m : Str} {ps : List Str} {sp : Sp} {p pos apos : Pos} {e o : Expr} {es : List Expr} {t : TA} {ta : TE}
theorem pe_has (h : Has X.prog X.w X.K X.mg X.base k x ps sp) (hr : Room k X.A) (ha : PA X (e :: es) t) (hg : Gl X x := by rfl) (hdb : (x == ("__debug__" : Str)) = false := by decide)
    (he : starEach (e :: es) X.env = (false, eval e X.env) :: starEach es X.env := by rfl) (hpl : (backTo pos (starEach es X.env)).any (·.1) = false := by rfl) : PE X (.Call (.Name x p) (e :: es) [] pos) (tCall sp [] E0 t) := by
  obtain ⟨f, fd, F, hm, kp, b⟩ := h
  exact pe_call F hr hg hm kp b .nil pass0 ha hdb he hpl
/-- a method of an own class -/
def HasM (P : Program) (w : World) (K : PySem.W.Frag) (mg : Str → Option Value) (base : Heap) (C : Addr) (k : Nat) (m : Str) (ps : List Str) (sp : Sp) : Prop :=
  Cls K C ∧ ∃ f fd, FnOk P w K mg base CX0 k f fd ps sp ∧ Meth K C m f ∧ Binds K fd ps []
theorem pe_hasm {C : Addr} {pl : Sem Bool} (h : HasM X.prog X.w X.K X.mg X.base C k m ps sp) (hr : Room k X.A) (ho : PE X o ta) (ha : PA X (e :: es) t) (hst : starEach (e :: es) X.env = (false, eval e X.env) :: starEach es X.env := by rfl)
    (hpl : (backTo pos (starEach es X.env)).any (·.1) = false := by rfl)
    (ht : eval (.Call (.Attribute o m apos) (e :: es) [] pos) X.env = (do
      let ov ← eval o X.env
      standAt apos.atName
      let (f, first) ← holding [ov] (getMethod ov m pl)
      callWith pos f first (backTo pos (starEach (e :: es) X.env)) (backToKw pos (keywordEach [] X.env))) := by rfl) :
    PE X (.Call (.Attribute o m apos) (e :: es) [] pos) (tMeth C m sp [] E0 ta t) := by
  obtain ⟨c, f, fd, F, hm, b⟩ := h
  exact pe_meth ho c hm F hr b .nil pass0 ha hst hpl ht
/-- an own class with an __init__ that takes nothing -/
def HasC (P : Program) (w : World) (K : PySem.W.Frag) (mg : Str → Option Value) (base : Heap) (C : Addr) (k : Nat) (x : Str) (sp : Sp) : Prop :=
  mg x = some (.ref C) ∧ ∃ f fd, Mk K C f ∧ FnOk P w K mg base CX0 k f fd ["self"] sp ∧ Binds K fd ["self"] []
theorem pe_mk0 {C : Addr} (h : HasC X.prog X.w X.K X.mg X.base C k x sp) (hr : Room (k + 1) X.A) (hg : Gl X x := by rfl) (hdb : (x == ("__debug__" : Str)) = false := by decide) : PE X (.Call (.Name x p) [] [] pos) (tMake C sp [] E0 tNil) := by
  obtain ⟨hm, f, fd, M, F, b⟩ := h
  exact pe_make0 M F hr hg hm b .nil pass0 hdb
end
end Dt
namespace Dt
open PySem L2
theorem dpa1 {K : PySem.W.Frag} {H : Hp} {vs : List V} {a : PyData} (h : DpAll K H vs [a]) : ∃ v, vs = [v] ∧ Dp K H v a := by
  cases h with
  | cons h1 t => cases t; exact ⟨_, rfl, h1⟩
theorem dpa2 {K : PySem.W.Frag} {H : Hp} {vs : List V} {a b : PyData} (h : DpAll K H vs [a, b]) : ∃ v w, vs = [v, w] ∧ Dp K H v a ∧ Dp K H w b := by
  cases h with
  | cons h1 t =>
    obtain ⟨w, rfl, h2⟩ := dpa1 t
    exact ⟨_, _, rfl, h1, h2⟩
theorem dpa3 {K : PySem.W.Frag} {H : Hp} {vs : List V} {a b c : PyData} (h : DpAll K H vs [a, b, c]) : ∃ v w u, vs = [v, w, u] ∧ Dp K H v a ∧ Dp K H w b ∧ Dp K H u c := by
  cases h with
  | cons h1 t =>
    obtain ⟨w, u, rfl, h2, h3⟩ := dpa2 t
    exact ⟨_, _, _, rfl, h1, h2, h3⟩
end Dt

set_option Elab.async false
set_option maxRecDepth 100000
set_option maxHeartbeats 2000000
set_option linter.all false
namespace Dt
open PySem L2 Evl PyProof.Rows

/-! ### xs[i] within xs[i] += e -/
def rIxN (K : PySem.W.Frag) : V → V → Hp → VK → Prop := fun x y H Q => ∃ p xs k v, x = .ref p ∧ y = .int ((k : Nat) : Int) ∧ SqL K H p xs ∧ xs[k]? = some v ∧ Q v H
theorem get_listN {X : Cx} : PGet X (rIxN X.K) := by
  intro pins s σ H o i ov iv Q I ro ri h
  obtain ⟨p, xs, k, z, rfl, rfl, hq, he, q⟩ := h
  cases ro
  obtain ⟨t, rfl⟩ := ri
  obtain ⟨its, r, pl, hz⟩ := I.list hq
  obtain ⟨w, ew, rw'⟩ := r.get he
  have hk := (List.getElem?_eq_some_iff.mp he).1
  have hn := line63
  exact wpAny_getItem_list pl.isList (Int.natCast_nonneg k) (by omega) (by simpa using ew) ⟨z, H, I, rw', q⟩

/-! ### list of a range's iterator -/
theorem meets_rihint (r : Addr) (i j k : Int) (t u v : Tok) :
    Meets (Builtin.«range_iterator.__length_hint__» ⟨[.ref r], []⟩) (fun _ R s => s.heap.get? r = some { cls := .type "range_iterator", data := .fields #[.int i t, .int j u, .int k v] } ∧
      ∀ m tk, R (.ok (.ret (.int j m))) { s with toks := tk }) :=
  .of_wp fun prog w A R s h => by obtain ⟨hp, g, d, tk, os⟩ := s; obtain ⟨hl, h⟩ := h; wp_walk; exact ⟨_, rfl, h _ _⟩
section
variable {prog : Program} {w : World} {A : Around} {E : Value → Shared → Prop} {s : Shared}
theorem call_rihint {it : Addr} {x left step : Int} {Q : Value → Shared → Prop} (hit : IsRangeIter s.heap it x left step) (h : ∀ m tk, Q (.int left m) { s with toks := tk }) :
    wpAny (model prog w) A (call (.builtin "range_iterator.__length_hint__") [.ref it]) Q E s :=
  call_meets F.slot_range_iterator_length_hint ⟨_, hit, rfl⟩ F.entry_range_iterator_length_hint (F.args_range_iterator_length_hint_1 _) (meets_rihint it x left step _ _ _) ⟨hit, h⟩
theorem hint_rangeiter {it : Addr} {x left step : Int} {Q : Bool → Shared → Prop} (hit : IsRangeIter s.heap it x left step) (h0 : 0 ≤ left) (h1 : left ≤ 2 ^ 22) (h : ∀ tk, Q false { s with toks := tk }) :
    wpAny (model prog w) A (Builtin.List.listLengthHint (.ref it)) Q E s := by
  have hT : s.TypeIs (.ref it) "range_iterator" := ⟨_, hit, rfl⟩
  have hl : Builtin.List.listTooLong left.toNat = false := by
    unfold Builtin.List.listTooLong
    rw [sizeLine_eq]
    simp
    omega
  unfold Builtin.List.listLengthHint
  refine wpAny_bind (wpAny_specialOf hT F.nolen_ra ?_)
  show wpAny _ A (specialOf (Value.ref it) (Str.ofString "__length_hint__") >>= _) _ _ _
  refine wpAny_bind (wpAny_specialOf hT F.hint_ra ?_)
  generalize hid : ("range_iterator.__length_hint__" : String) = id0
  (fail_if_success (clear hid id0))
  wp_delta
  rw [show splitId id0 = some ("range_iterator", "__length_hint__") from by subst hid; decide +kernel]
  subst hid
  refine wpAny_bind (wpAny_isInstance (b := true) hT (by rw [isSubtype_type]; kernel_rfl) ?_)
  show wpAny _ A (call (.builtin "range_iterator.__length_hint__") [.ref it] >>= _) _ _ _
  refine wpAny_bind (call_rihint hit fun m tk => ?_)
  refine wpAny_bind (m := asInt? (.int left m)) (wpAny_pure ?_)
  dsimp only
  rw [if_neg (by rw [hl]; decide)]
  exact wpAny_pure (h tk)
variable {it : Addr} {a c : Int} {n : Nat}
/-- the iterator's items go behind an empty list -/
theorem extend_rangeiter {R : Result → Shared → Prop} (hh : A.handled = none) (hit : IsRangeIter s.heap it a n c) (hn : n ≤ 2 ^ 22) (S : Addr) (hne : S ≠ it) (c₀ : Nat) (hS : s.heap.get? S = some { cls := .type "list", data := .seq #[] c₀ })
    (hR : ∀ h' tk acc' c', (∀ b o, b ≠ S → b ≠ it → s.heap.get? b = some o → h'.get? b = some o) → h'.get? S = some { cls := .type "list", dict := none, data := .seq acc' c', slots := #[] } →
      ItemsOf (fun i v => ∃ t, v = .int (a + (i : Nat) * c) t) acc' n → R (.ok (.ret .none)) { s with heap := h', toks := tk }) :
    wpAny (model prog w) A.in1 (Builtin.List.listExtendWith (.ref S) (.ref it) .none)
      (fun fin s' => match fin with | .done f => R (.ok f) s' | .again c' => c'.quiet = true ∧ codeAny (model prog w) A c' R s') (fun e s' => R (.error e) s') s := by
  have hlt : it < s.heap.objs.size := Heap.lt_size hit
  have hSf : S ∉ [it] := fun z => hne (List.mem_singleton.mp z)
  have W := (Walks.range (prog := prog) (w := w) (A := A.in1) hh it a c n).toS
  have h00 : IsRangeIter s.heap it (a + ((0 : Nat) : Int) * c) ((n : Int) - ((0 : Nat) : Int)) c := by simpa using hit
  have key : ∀ (h : Heap) (c₁ tk : Nat), IsRangeIter h it (a + ((0 : Nat) : Int) * c) ((n : Int) - ((0 : Nat) : Int)) c → (∀ b o, b ≠ S → s.heap.get? b = some o → h.get? b = some o) →
      h.get? S = some { cls := .type "list", data := .seq #[] c₁ } → codeAny (model prog w) A (.builtin "list.extend.loop" ⟨[.ref S, .ref it, .none], []⟩) R { s with heap := h, toks := tk } := by
    intro h c₁ tk h3 hk hS₁
    refine codeAny_extend_loopS W (by rw [sizeLine_eq]; omega) S hSf .none n 0 _ #[] c₁ rfl (Nat.zero_le _) h3 hS₁ (ItemsOf.nil _) fun s' acc' c' hm hS' hacc => ?_
    rw [Moved.eq_with hm]
    refine hR s'.heap s'.toks acc' c' (fun b o hb hb2 e => hm.heap b o (fun z => ?_) (hk b o hb e)) hS' hacc
    rcases List.mem_cons.mp z with e' | z
    · exact hb e'
    · exact hb2 (List.mem_singleton.mp z)
  unfold Builtin.List.listExtendWith
  refine wpAny_bind (wpAny_typeOf (T := "range_iterator") ⟨_, hit, rfl⟩ ?_)
  have h1 : Builtin.List.listSameRef (.ref S) (.ref it) = false := by simp [Builtin.List.listSameRef, hne]
  have h2 : (Value.type "range_iterator" == Value.type "list") = false := by decide
  have h3 : (Value.type "range_iterator" == Value.type "tuple") = false := by decide
  simp only [h1, h2, h3, Bool.or_false, Bool.false_eq_true, if_false]
  refine wpAny_bind (wpAny_pyIter_rangeiter hit ?_)
  refine wpAny_bind (wpAny_holding (hint_rangeiter hit (by omega) (by omega) fun tk => ?_))
  refine wpAny_ite_split (fun _ => ?_) (fun _ => wpAny_pure ⟨plainId_quiet PySem.F.plain_extend_loop _, key _ c₀ _ h00 (fun _ _ _ e => e) hS⟩)
  refine wpAny_bind (wpAny_rule ?_)
  refine wpAny_bind ?_
  show wpAny _ _ (updateSeq S (·.push .none) >>= fun _ => updateSeq S (·.pop)) _ _ _
  refine wpAny_bind (wpAny_updateSeq hS rfl ?_)
  have q2 := Heap.get?_update_self (Obj.mapSeq (·.push Value.none)) hS rfl
  refine wpAny_updateSeq (hz := by seq_fits) q2 rfl ?_
  have q3 := Heap.get?_update_self (Obj.mapSeq (·.pop)) q2 rfl
  refine wpAny_pure ⟨plainId_quiet PySem.F.plain_extend_loop _, key _ _ _ ?_ (fun b o hb e => ?_) q3⟩
  · exact (Heap.get?_update_other _ _ hne).trans ((Heap.get?_update_other _ _ hne).trans h00)
  · exact (Heap.get?_update_other _ _ (Ne.symm hb)).trans ((Heap.get?_update_other _ _ (Ne.symm hb)).trans e)
theorem list_init_rangeiter {R : Result → Shared → Prop} (hh : A.handled = none) (hit : IsRangeIter s.heap it a n c) (hn : n ≤ 2 ^ 22) (S : Addr) (hne : S ≠ it) (hS : s.heap.get? S = some { cls := .type "list", data := .seq #[] })
    (hR : ∀ h' tk acc' c', (∀ b o, b ≠ S → b ≠ it → s.heap.get? b = some o → h'.get? b = some o) → h'.get? S = some { cls := .type "list", dict := none, data := .seq acc' c', slots := #[] } →
      ItemsOf (fun i v => ∃ t, v = .int (a + (i : Nat) * c) t) acc' n → R (.ok (.ret .none)) { s with heap := h', toks := tk }) :
    wpAny (model prog w) A.in1 (Builtin.«list.__init__» ⟨[.ref S, .ref it], []⟩)
      (fun fin s' => match fin with | .done f => R (.ok f) s' | .again c' => c'.quiet = true ∧ codeAny (model prog w) A c' R s') (fun e s' => R (.error e) s') s := by
  show wpAny _ _ (do
    let old ← Builtin.List.listItems (.ref S)
    Builtin.List.listUpdate (.ref S) (fun _ => #[])
    letGo old.toList.reverse
    Builtin.List.listExtendWith (.ref S) (.ref it) .none) _ _ s
  refine wpAny_bind ?_
  unfold Builtin.List.listItems
  refine wpAny_bind (wpAny_seqItems hS rfl (wpAny_pure ?_))
  show wpAny _ _ (updateSeq S (fun _ => #[]) >>= fun _ =>
    letGo (#[] : Array Value).toList.reverse >>= fun _ =>
    Builtin.List.listExtendWith (.ref S) (.ref it) .none) _ _ s
  refine wpAny_bind (wpAny_updateSeq hS rfl ?_)
  have q2 := Heap.get?_update_self (Obj.mapSeq (fun _ => (#[] : Array Value))) hS rfl
  have oth : ∀ b o, b ≠ S → s.heap.get? b = some o → (s.heap.update S (Obj.mapSeq (fun _ => (#[] : Array Value)))).get? b = some o :=
    fun b o hb e => (Heap.get?_update_other _ _ (Ne.symm hb)).trans e
  refine wpAny_bind (wpAny_letGo ?_)
  refine extend_rangeiter hh (oth it _ (Ne.symm hne) hit) hn S hne _ q2 fun h' tk acc' c' hk hS' hacc => ?_
  exact hR h' tk acc' c' (fun b o hb hb2 e => hk b o hb hb2 (oth b o hb e)) hS' hacc
theorem call_list_rangeiter {Q : Value → Shared → Prop} (hh : A.handled = none) (hit : IsRangeIter s.heap it a n c) (hn : n ≤ 2 ^ 22)
    (hQ : ∀ h' tk acc' c', (∀ b o, b ≠ it → s.heap.get? b = some o → h'.get? b = some o) → h'.get? s.heap.objs.size = some { cls := .type "list", dict := none, data := .seq acc' c', slots := #[] } →
      ItemsOf (fun i v => ∃ t, v = .int (a + (i : Nat) * c) t) acc' n → Q (.ref s.heap.objs.size) { s with heap := h', toks := tk }) :
    wpAny (model prog w) A (call (.type "list") [.ref it]) Q E s := by
  refine callType_codes (Q₁ := fun obj s₁ => obj = .ref s.heap.objs.size ∧ s₁ = { s with heap := s.heap.push { cls := .type "list", data := .seq #[] } })
    PySem.F.called_list (PySem.F.typeCall_list_1 _) PySem.F.entry_list_init (code_list_new _ ⟨rfl, rfl⟩) fun obj s₁ h₁ => ?_
  obtain ⟨rfl, rfl⟩ := h₁
  have hS := Heap.get?_push_size s.heap (o := { cls := .type "list", data := .seq #[] }) rfl
  refine ⟨⟨_, hS, rfl⟩, PySem.F.args_list_init_2 _ _,
    list_init_rangeiter (A := A.in1) hh (Heap.get?_push_of_some _ hit) hn _ (Nat.ne_of_gt (Heap.lt_size hit)) hS fun h' tk acc' c' hk hS' hacc => ?_⟩
  exact ⟨rfl, hQ h' tk acc' c' (fun b o hb e => hk b o (Nat.ne_of_lt (Heap.lt_size e)) hb (Heap.get?_push_of_some _ e)) hS' hacc⟩
end
end Dt

set_option Elab.async false
set_option maxRecDepth 100000
set_option maxHeartbeats 2000000
set_option linter.all false
namespace Dt
open PySem L2 Evl PyProof.Rows HT
section
variable {prog : Program} {w : World} {A : Around} {E : Value → Shared → Prop} {s : Shared}
theorem adjust_rev (n : Nat) : Builtin.Slice.sliceAdjust none none (-1) (n : Int) = ((n : Int) - 1, -1) := by
  unfold Builtin.Slice.sliceAdjust
  simp
theorem places_rev (n : Nat) : Builtin.Slice.slicePlaces ((n : Int) - 1) (-1) (-1) = n := by
  unfold Builtin.Slice.slicePlaces
  simp
  omega
theorem applied_rev {sl : Addr} {vs : Value} {n : Nat} {Q : Int × Int × Nat → Shared → Prop} (hs : s.heap.IsSliceOf sl .none .none vs) (ps : IsPart vs (some (-1)))
    (h : Q ((n : Int) - 1, -1, n) s) : wpAny (model prog w) A (Builtin.Slice.sliceApplied (.ref sl) (pure (n : Int))) Q E s := by
  obtain ⟨os, hos, hcs, hds⟩ := id hs
  unfold Builtin.Slice.sliceApplied Builtin.Slice.sliceFields
  refine wpAny_bind (wpAny_bind (wpAny_field hos hds (x := .none) rfl (wpAny_bind (wpAny_field hos hds (x := .none) rfl
    (wpAny_bind (wpAny_field hos hds (x := vs) rfl (wpAny_pure ?_)))))))
  refine wpAny_bind (slicePart_ ps ?_)
  show wpAny _ _ (if (((-1 : Int)) == 0) = true then _ else _) _ _ s
  rw [if_neg (by decide)]
  refine wpAny_bind (slicePart_none (wpAny_bind (slicePart_none (wpAny_bind (wpAny_pure ?_)))))
  show wpAny _ _ (match Builtin.Slice.sliceAdjust none none (-1) (n : Int) with
    | (lo, hi) => pure (lo, (-1 : Int), Builtin.Slice.slicePlaces lo hi (-1))) _ _ s
  rw [adjust_rev n]
  show wpAny _ _ (pure ((n : Int) - 1, (-1 : Int), Builtin.Slice.slicePlaces ((n : Int) - 1) (-1) (-1))) _ _ s
  rw [places_rev]
  exact wpAny_pure h
theorem fm_congr {α β : Type} {f g : α → Option β} : ∀ l : List α, (∀ m ∈ l, f m = g m) → l.filterMap f = l.filterMap g
  | [], _ => rfl
  | a :: l, h => by
    rw [List.filterMap_cons, List.filterMap_cons, h a List.mem_cons_self, fm_congr l fun m hm => h m (List.mem_cons_of_mem _ hm)]
theorem pick_rev (xs : Array Value) : ((List.range xs.size).filterMap fun (m : Nat) => xs[(((xs.size : Int) - 1) + (m : Int) * (-1)).toNat]?).toArray = xs.toList.reverse.toArray := by
  have e : ((List.range xs.size).filterMap fun (m : Nat) => xs[(((xs.size : Int) - 1) + (m : Int) * (-1)).toNat]?) = ((List.range xs.size).map fun k => xs.size - 1 - k).filterMap (xs[·]?) := by
    rw [List.filterMap_map]
    refine fm_congr _ fun m hm => ?_
    have h2 : (((xs.size : Int) - 1) + (m : Int) * (-1)).toNat = xs.size - 1 - m := by
      have := List.mem_range.mp hm
      omega
    rw [h2]
    rfl
  rw [e, PySem.W.krv_range, List.filterMap_reverse, PySem.W.krv_all]
theorem getItem_tuple_rev {t sl : Addr} {items : Array Value} {vs : Value} {Q : Value → Shared → Prop} (ht : IsTup s.heap t items) (hs : s.heap.IsSliceOf sl .none .none vs) (ps : IsPart vs (some (-1)))
    (h : Q (.ref s.heap.objs.size) { s with heap := s.heap.push { cls := .type "tuple", data := .seq items.toList.reverse.toArray } }) (hsz : items.size ≤ sizeLine) : wpAny (model prog w) A (getItem (.ref t) (.ref sl)) Q E s := by
  have hok : sizeOk (.seq items.toList.reverse.toArray) := by
    show items.toList.reverse.toArray.size ≤ sizeLine
    simpa using hsz
  obtain ⟨os, hos, hcs, hds⟩ := id hs
  have hTs : s.TypeIs (.ref sl) "slice" := ⟨os, hos, hcs⟩
  unfold getItem
  try with_reducible refine wpAny_holding ?_
  first | refine wpAny_bind (wpAny_pure ?_) | skip
  refine wpAny_bind (wpAny_sequenceKey ht.typeIs (by decide) ?_)
  refine wpAny_bind (wpAny_callSpecial?_slot (name := Str.ofString "__getitem__") ht.typeIs PyProof.Rows.slot_tuple_getitem
    (wpAny_call_entry PyProof.Rows.slot_tuple_getitem ht.typeIs entry_tuple_getitem ?_ (args_tuple_getitem _ _)))
  show wpAny _ _ (Builtin.Tuple.tupleItemsOf (.ref t) >>= _) _ _ s
  refine wpAny_bind (tupleItemsOf_ ht ?_)
  refine wpAny_bind (wpAny_typeOf hTs ?_)
  rw [if_pos (by decide)]
  refine wpAny_bind (applied_rev hs ps ?_)
  show wpAny _ _ (if (((items.size : Int) - 1) == 0 && (-1 : Int) == 1 && items.size == items.size) = true then _ else _) _ _ s
  rw [if_neg (by simp), pick_rev]
  first
    | exact wpAny_bind (m := Builtin.Tuple.tupleExact _) (wpAny_newObj_type (wpAny_pure ⟨_, rfl, wpAny_pure h⟩) hok)
    | exact wpAny_bind (m := Builtin.Tuple.tupleExact _) (wpAny_newObj_type (wpAny_bind (wpAny_pure (wpAny_pure ⟨_, rfl, wpAny_pure h⟩))) hok)
    | exact wpAny_bind (wpAny_bind (m := Builtin.Tuple.tupleExact _) (wpAny_newObj_type (wpAny_pure (wpAny_pure ⟨_, rfl, wpAny_pure h⟩)) hok))
    | exact wpAny_bind (wpAny_bind (m := Builtin.Tuple.tupleExact _) (wpAny_newObj_type (wpAny_pure ⟨_, rfl, wpAny_pure h⟩) hok))
end
section
variable {X : Cx} {e : Expr} {te : TE} {k : Nat} {p1 p2 p3 pos : Pos}
/-- t[::-1] of a tuple -/
def tRevT (K : PySem.W.Frag) (te : TE) : TE := fun σ H Q => te σ H fun x H1 => ∃ a xs, x = .ref a ∧ SqT K H1 a xs ∧ ∀ p, H1 p = none → Q (.ref p) (upd H1 p (.tup xs.reverse))
theorem pe_revT (he : PE X e te) : PE X (.Subscript e (.Slice none none (some (.UnaryOp .USub (.Constant (.int 1) k p1) p2)) p3) pos) (tRevT X.K te) := by
  refine ⟨fun pins s σ H Q I h => ?_⟩
  refine Subscript_ (thn (he.run pins s σ H _ I h) fun v s1 ⟨x, H1, I1, r1, q1⟩ => ?_)
  obtain ⟨a, xs, ex, hx, q⟩ := q1
  subst ex
  cases r1
  have hst : PO X (some (.UnaryOp .USub (.Constant (.int 1) k p1) p2)) (tPart (tUn (rU fun i => .int (-i)) (tC (.int 1)))) := po_some (pe_un un_neg pe_int)
  have hno : ∀ (s : Shared) (H : Hp), Inv X pins σ H s → wpAny (model X.prog X.w) X.A (evalPart none X.env) (fun u s' => u = .none ∧ Inv X pins σ H s') X.xe s := fun s H I =>
    thn (po_none.run pins s σ H (fun o H2 => o = none ∧ H2 = H) I ⟨rfl, rfl⟩) fun u s2 ⟨l, H2, I2, pl, el, e2⟩ => by
      subst el e2
      cases pl
      exact ⟨rfl, I2⟩
  refine wpAny_Slice (thn (hno s1 H1 I1) fun vl s2 ⟨el, I2⟩ => ?_)
  refine thn (hno s2 H1 I2) fun vu s3 ⟨eu, I3⟩ => ?_
  subst el eu
  refine thn (hst.run pins s3 σ H1 (fun o H4 => o = some (-1) ∧ H4 = H1) I3 ⟨1, rfl, -1, rfl, rfl, rfl⟩) fun vs s4 ⟨o, H4, I4, ps, eo, e4⟩ => ?_
  subst eo e4
  have I5 : Inv X pins σ H4 { s4 with heap := s4.heap.push { cls := .type "slice", data := .fields #[.none, .none, vs] } } := I4.kept (t' := s4.toks) fun b ob q => Heap.get?_push_of_some _ q
  obtain ⟨its, r, ht, hz⟩ := I5.tuple hx
  have hlen := r.length
  show wpAny (model X.prog X.w) X.A (subscriptTail e (.Slice none none (some (.UnaryOp .USub (.Constant (.int 1) k p1) p2)) p3) (.ref a) (.ref s4.heap.objs.size)) (EP X pins σ Q) X.xe
    { s4 with heap := s4.heap.push { cls := .type "slice", data := .fields #[.none, .none, vs] } }
  refine tail_any (ops := [.ref a, .ref s4.heap.objs.size]) ht.typeIs PyProof.Rows.slot_tuple_getitem.lookup ?_ (by with_unfolding_all rfl)
  refine getItem_tuple_rev ht (Heap.IsSliceOf.new _ .none .none vs) ps ?_ (by rw [List.size_toArray]; omega)
  refine ⟨.ref _, _, I5.laid (t' := s4.toks) (o := .tup xs.reverse) (fun b ob q => Heap.get?_push_of_some _ q) (Nat.le_refl _) ?_, rfl, q _ (I5.hok.fresh (Nat.le_refl _))⟩
  refine ⟨by rw [List.length_reverse]; exact hz, its.reverse, r.reverse, ?_⟩
  exact IsTup.new _ _
end
section
variable {X : Cx} {e : Expr} {te : L2.St → Hp → (Int → Int → Hp → Prop) → Prop} {p pos p2 pos2 : Pos}
/-- the ints n - 1, .., 0 -/
def revV (n : Nat) : List V := (List.range n).map fun (i : Nat) => V.int ((n : Int) - 1 - (i : Int))
/-- list(reversed(range(n))) -/
def tLstRev (te : L2.St → Hp → (Int → Int → Hp → Prop) → Prop) : TE := fun σ H Q => te σ H fun a b H1 => a = 0 ∧ 0 ≤ b ∧ b ≤ 4000000 ∧ ∀ q, H1 q = none → Q (.ref q) (upd H1 q (.lst (revV b.toNat)))
theorem revV_length (n : Nat) : (revV n).length = n := by unfold revV; simp
theorem vals_rev {n : Nat} {acc : Array Value} (h : ItemsOf (fun i v => ∃ t, v = .int ((n : Int) - 1 + (i : Nat) * (-1)) t) acc n) : Vals (revV n) acc.toList := by
  have e : acc.toList.length = n := by rw [Array.length_toList]; exact h.1
  unfold revV
  have h2 := vals_of_get acc.toList (fun (i : Nat) => V.int ((n : Int) - 1 - (i : Int))) fun j u hj => ?_
  · rw [e] at h2
    exact h2
  · obtain ⟨t, rfl⟩ := h.2 j u (by rw [← hj, Array.getElem?_toList])
    exact ⟨t, by congr 1; omega⟩
theorem pe_listRev (hg : Gl X "list") (hm : X.mg "list" = none) (hg2 : Gl X "reversed") (hm2 : X.mg "reversed" = none) (he : PRg X e te)
    (na : starEach [e] X.env = (false, eval e X.env) :: starEach [] X.env := by rfl)
    (nb : starEach [.Call (.Name "reversed" p2) [e] [] pos2] X.env = (false, eval (.Call (.Name "reversed" p2) [e] [] pos2) X.env) :: starEach [] X.env := by rfl) (hc : X.calm = true := by rfl) :
    PE X (.Call (.Name "list" p) [.Call (.Name "reversed" p2) [e] [] pos2] [] pos) (tLstRev te) := by
  refine ⟨fun pins s σ H Q I h => ?_⟩
  refine Call_ (ld_blt I hg hm boot_list (PyProof.Rows.callWith_type1 (args_cons ?_ nb) nb))
  refine Call_ (ld_blt I hg2 hm2 PyProof.Rows.boot_reversed (PyProof.Rows.callWith_type1 (args_cons (thn (he pins s σ H _ I h)
    fun x s1 ⟨r, a, b, t, u, v, H1, ex, hr, I1, h0, hb0, hb1, q⟩ => args_nil ?_) na) na rfl))
  subst ex h0
  have hn : Builtin.Range.rangeSize 0 b 1 = ((b.toNat : Nat) : Int) := by rw [rangeSize_nat]; simp
  refine call_reversed_range hr (smallRev_one (by omega) (by omega) (by omega) (by omega)) ?_
  refine args_nil ?_
  have hit : IsRangeIter (s1.heap.push (rngRevObj 0 b 1)) s1.heap.objs.size ((b.toNat : Int) - 1) ((b.toNat : Nat) : Int) (-1) := by
    have e0 : rngRevObj 0 b 1 = { cls := .type "range_iterator", data := .fields #[rawInt ((b.toNat : Int) - 1), rawInt ((b.toNat : Nat) : Int), rawInt (-1)] } := by
      unfold rngRevObj
      rw [hn]
      simp
    rw [e0]
    exact Heap.get?_push_size _ rfl
  refine call_list_rangeiter (n := b.toNat) (I1.ok.hd hc) hit (by omega) fun h' tk acc c' hk e' hi => ?_
  have hk2 : ∀ c o, s1.heap.get? c = some o → h'.get? c = some o := fun c o z => hk c o (Nat.ne_of_lt (Heap.lt_size z)) (Heap.get?_push_of_some _ z)
  have hsz : s1.heap.objs.size ≤ (s1.heap.push (rngRevObj 0 b 1)).objs.size := by
    rw [Heap.size_push]
    omega
  refine ⟨.ref _, upd H1 _ (.lst (revV b.toNat)), I1.laid (t' := tk) hk2 hsz
    (show ObjOk X.prog X.w _ _ _ (.lst (revV b.toNat)) from ⟨?_, acc.toList, c', vals_rev hi, ?_⟩), rfl, q _ (I1.hok.fresh hsz)⟩
  · rw [revV_length, sizeLine_eq]; omega
  · rw [Array.toArray_toList]; exact e'
end
end Dt

set_option Elab.async false
set_option maxRecDepth 100000
set_option maxHeartbeats 2000000
set_option linter.all false
namespace Dt
open PySem L2 Evl PyProof.Rows
/-! ### repr of data, where no repr is under way -/
mutual
theorem dp_nodict {K : PySem.W.Frag} {H : Hp} : ∀ (d : PyData) {v : V}, Dp K H v d → d.hasDict = false
  | .none, _, _ => by simp only [PyData.hasDict]
  | .bool _, _, _ => by simp only [PyData.hasDict]
  | .int _, _, _ => by simp only [PyData.hasDict]
  | .str _, _, _ => by simp only [PyData.hasDict]
  | .list ds, _, h => by
    cases h with
    | lst hs ha =>
      simp only [PyData.hasDict]
      exact dpa_nodict ds ha
  | .tuple ds, _, h => by
    cases h with
    | tup hs ha =>
      simp only [PyData.hasDict]
      exact dpa_nodict ds ha
  | .dict _, _, h => by cases h
theorem dpa_nodict {K : PySem.W.Frag} {H : Hp} : ∀ (ds : List PyData) {vs : List V}, DpAll K H vs ds → PyData.hasDictAll ds = false
  | [], _, _ => by simp only [PyData.hasDictAll]
  | d :: ds, _, h => by
    cases h with
    | cons h1 h2 =>
      simp only [PyData.hasDictAll]
      rw [dp_nodict d h1, dpa_nodict ds h2]
      rfl
end
def rRepr (K : PySem.W.Frag) : List V → Hp → VK → Prop := fun xs H Q => ∃ x d, xs = [x] ∧ Dp K H x d ∧ d.showable = true ∧ d.depth ≤ 64 ∧ d.shown.length ≤ sizeLine ∧ Q (.str d.shown) H
theorem call_reprD {X : Cx} (hg : X.A.guards = some []) (hu : X.A.units + 70 < cLine) : CallR X (.builtin "repr") (rRepr X.K) := by
  intro pins s σ H xs us Q I r h
  obtain ⟨x, d, rfl, hd, hsh, hdep, hz, q⟩ := h
  obtain ⟨u, rfl, ru⟩ := vals1 r
  obtain ⟨as, rd⟩ := Dp.reads I d x u hd ru
  have nod := dp_nodict d hd
  have big : ∀ a, u = .ref a → wpAny (model X.prog X.w) X.A (call (.builtin "repr") [u]) (EP X pins σ Q) X.xe s := fun a e => by
    subst e
    exact repr_of_reads' rd hsh (fun z => by rw [nod] at z; cases z) hg (by omega) (fun _ _ e => e) (fun h' t tk hk => ⟨.str d.shown, H, I.kept (t' := tk) hk, ⟨_, rfl⟩, q⟩) hz
  cases hd with
  | non =>
    cases ru
    simp only [PyData.shown] at q
    exact PySem.P.repr_of_none ⟨.str _, H, I.tok _, ⟨_, rfl⟩, q⟩
  | bl b =>
    cases ru
    simp only [PyData.shown] at q
    exact PySem.P.repr_of_bool ⟨.str _, H, I.tok _, ⟨_, rfl⟩, q⟩
  | int i =>
    obtain ⟨t, rfl⟩ := ru
    simp only [PyData.shown] at q
    simp only [PyData.showable] at hsh
    exact PySem.P.repr_of_int (of_decide_eq_true hsh) ⟨.str _, H, I.tok _, ⟨_, rfl⟩, q⟩
  | str x =>
    obtain ⟨t, rfl⟩ := ru
    simp only [PyData.shown] at q hz
    exact PySem.P.repr_of_str ⟨.str _, H, I.tok _, ⟨_, rfl⟩, q⟩ hz
  | lst hs ha => exact big _ ru
  | tup hs ha => exact big _ ru
end Dt

set_option Elab.async false
set_option maxRecDepth 100000
set_option maxHeartbeats 2000000
set_option linter.all false
/-! the program's text by places; the names that stay built-in -/
namespace Dl
open PySem L2 Evl Dt
def topS (i : Nat) : Stmt := PySem.Challenge.pw_deadlevers_k10_whole_drawn_settings_coun.main.body.getD i (.Pass ⟨0, 0, 0, 0⟩)
structure Nm (mg : Str → Option Value) : Prop where
  n_len : mg "len" = none
  n_isinstance : mg "isinstance" = none
  n_int : mg "int" = none
  n_bool : mg "bool" = none
  n_str : mg "str" = none
  n_list : mg "list" = none
  n_tuple : mg "tuple" = none
  n_range : mg "range" = none
  n_reversed : mg "reversed" = none
  n_min : mg "min" = none
  n_max : mg "max" = none
  n_sum : mg "sum" = none
  n_sorted : mg "sorted" = none
  n_enumerate : mg "enumerate" = none
  n_zip : mg "zip" = none
  n_abs : mg "abs" = none
  n_repr : mg "repr" = none
  n_KeyError : mg "KeyError" = none
end Dl

set_option Elab.async false
set_option maxRecDepth 100000
set_option maxHeartbeats 2000000
set_option linter.all false
namespace Dl
open PySem L2 Evl Dt
/-- the type of data -/
def tyD : PyData → Value
  | .none => .type "NoneType"
  | .bool _ => .type "bool"
  | .int _ => .type "int"
  | .str _ => .type "str"
  | .list _ => .type "list"
  | .tuple _ => .type "tuple"
  | .dict _ => .type "dict"
theorem dp_ty {K : PySem.W.Frag} {H : Hp} {v : V} {d : PyData} (h : Dp K H v d) : TyX K H v (tyD d) := by
  cases h with
  | non => exact .base .non
  | bl b => exact .base (.bl b)
  | int i => exact .base (.int i)
  | str x => exact .base (.str x)
  | lst hs ha =>
    rcases hs with (hs | ⟨o, hs⟩) | ⟨o, its, n, hs, hc, _⟩
    · exact .base (.lst hs)
    · exact .base (.frz hs)
    · exact .kList hs hc
  | tup hs ha =>
    rcases hs with (hs | ⟨o, hs⟩) | ⟨o, its, n, hs, hc, _⟩
    · exact .base (.tup hs)
    · exact .fTuple hs
    · exact .kTuple hs hc
section
variable {K : PySem.W.Frag} {S : List Addr} {σ : L2.St} {H : Hp} {te : TE} {d : PyData} {b : Bool}
/-- isinstance(x, T) of data -/
theorem ev_isi {T : String} (h : EvD K S te σ H d) (e : PySem.W.kitOne K (tyD d) (.type T) = some b) : Ev (tCB (rIsi K) (tCons te (tCons (tC (.ty T)) tNil))) σ H (.bl b) := fun H1 x Q q =>
  h H1 x _ fun v H2 e2 f => ⟨v, .ty T, tyD d, .type T, b, rfl, .ty T, dp_ty (dp_mono (cut_le S H2) d f), e, q H2 e2⟩
/-- isinstance(x, (T, U)) of data -/
theorem ev_isi2 {T U : String} (h : EvD K S te σ H d) (e : PySem.W.kitAny K (tyD d) [.type T, .type U] = some b) :
    Ev (tCB (rIsiT K) (tCons te (tCons (tTup (tCons (tC (.ty T)) (tCons (tC (.ty U)) tNil))) tNil))) σ H (.bl b) := fun H1 x Q q =>
  h H1 x _ fun v H2 e2 f => ⟨by show 2 ≤ sizeLine; decide, fun p hp =>
    ⟨v, p, [.ty T, .ty U], tyD d, [.type T, .type U], b, rfl, upd_same, .cons (.ty T) (.cons (.ty U) .nil), dp_ty (dp_mono ((cut_le S H2).trans (Ex.new hp)) d f), e, q _ (e2.trans (Ex.new hp))⟩⟩
end
def isIntD : PyData → Bool
  | .int _ => true
  | _ => false
def isSeqD : PyData → Bool
  | .list _ => true
  | .tuple _ => true
  | _ => false
def seqD : PyData → List PyData
  | .list ds => ds
  | .tuple ds => ds
  | _ => []
def isNumD : PyData → Bool
  | .int i => decide (0 ≤ i)
  | _ => false
def isWordD : PyData → Bool
  | .str s => s == "all" || s == "any"
  | _ => false
def isDict : PyData → Bool
  | .dict _ => true
  | _ => false
theorem dp_nd {K : PySem.W.Frag} {H : Hp} {v : V} {d : PyData} (h : Dp K H v d) : isDict d = false := by cases h <;> rfl
theorem kit_int {K : PySem.W.Frag} : ∀ d : PyData, isDict d = false → PySem.W.kitOne K (tyD d) (.type "int") = some (match d with | .int _ => true | .bool _ => true | _ => false)
  | .none, _ => by rfl
  | .bool _, _ => by rfl
  | .int _, _ => by rfl
  | .str _, _ => by rfl
  | .list _, _ => by rfl
  | .tuple _, _ => by rfl
  | .dict _, h => by cases h
theorem kit_bool {K : PySem.W.Frag} : ∀ d : PyData, isDict d = false → PySem.W.kitOne K (tyD d) (.type "bool") = some (match d with | .bool _ => true | _ => false)
  | .none, _ => by rfl
  | .bool _, _ => by rfl
  | .int _, _ => by rfl
  | .str _, _ => by rfl
  | .list _, _ => by rfl
  | .tuple _, _ => by rfl
  | .dict _, h => by cases h
theorem kit_str {K : PySem.W.Frag} : ∀ d : PyData, isDict d = false → PySem.W.kitOne K (tyD d) (.type "str") = some (match d with | .str _ => true | _ => false)
  | .none, _ => by rfl
  | .bool _, _ => by rfl
  | .int _, _ => by rfl
  | .str _, _ => by rfl
  | .list _, _ => by rfl
  | .tuple _, _ => by rfl
  | .dict _, h => by cases h
theorem kit_seq {K : PySem.W.Frag} : ∀ d : PyData, isDict d = false → PySem.W.kitAny K (tyD d) [.type "list", .type "tuple"] = some (isSeqD d)
  | .none, _ => by rfl
  | .bool _, _ => by rfl
  | .int _, _ => by rfl
  | .str _, _ => by rfl
  | .list _, _ => by rfl
  | .tuple _, _ => by rfl
  | .dict _, h => by cases h

section
variable {P : Program} {w : World} {K : PySem.W.Frag} {mg : Str → Option Value} {base : Heap} {f : Addr} {fd : FuncData}
def R1 (g : PyData → PyData) : List PyData → PyData → Prop := fun ds d => ∃ x, ds = [x] ∧ d = g x
abbrev spIsInteger (K : PySem.W.Frag) : Sp := spD K (R1 fun x => .bool (isIntD x))
abbrev s_is_integer : Stmt := topS 5
abbrev N_is_integer : List Str := ["value"]
theorem sc_is_integer : FnScope N_is_integer ["value"] (defScope s_is_integer) := ⟨rfl, rfl, rfl, by decide +kernel, rfl, by decide +kernel, by decide +kernel⟩

theorem ok_is_integer (F : Fun K "is_integer" "is_integer" s_is_integer f fd) (T : Nm mg) : FnOk P w K mg base CX0 1 f fd ["value"] (spIsInteger K) := by
  refine F.ok sc_is_integer (fun vs H Q E h => ?_) (fun cdv A outer s H vs Q E hr h => ?_)
  · obtain ⟨S, ds, d, _, hv, ⟨x, rfl, rfl⟩, _⟩ := h
    exact dpa_len hv
  · obtain ⟨S, ds, d, D, hv, ⟨x, rfl, rfl⟩, k⟩ := h
    obtain ⟨v, rfl, hx⟩ := dpa1 hv
    have nd := sc_is_integer.nd
    have nx := dp_nd hx
    have v0 : EvD K S (tVar 0) (start N_is_integer [v]) H x := ed_var (i := 0) rfl hx
    refine ⟨_, (pss_one (ps_ret (pe_and (pe_callB call_isi (by rfl) T.n_isinstance (by decide +kernel) (pa_cons (pv 0) (pa_cons (pe_bltn (v := .ty "int") (u := .type "int") (by rfl) T.n_int (by decide +kernel) rfl) pa_nil))) (pe_one (pe_not (pe_callB call_isi (by rfl) T.n_isinstance (by decide +kernel) (pa_cons (pv 0) (pa_cons (pe_bltn (v := .ty "bool") (u := .type "bool") (by rfl) T.n_bool (by decide +kernel) rfl) pa_nil)))))))), ?_⟩
    refine s_ret (ev_andV (ev_isi v0 (kit_int x nx)) fun _ => ev_notV (ev_isi v0 (kit_bool x nx))) fun H1 e1 => ?_
    refine k _ H1 e1 ?_
    cases x <;> exact .bl _
end
end Dl

set_option Elab.async false
set_option maxRecDepth 100000
set_option maxHeartbeats 2000000
set_option linter.all false
namespace Dl
open PySem L2 Evl Dt
section
variable {X : Cx} {x : Str} {pos : Pos}
theorem pe_g {n : Int} (h : ∃ t, X.mg x = some (.int n t)) (hg : Gl X x := by rfl) (hd : (x == ("__debug__" : Str)) = false := by decide) : PE X (.Name x pos) (tC (.int n)) := by
  obtain ⟨t, h⟩ := h
  exact pe_glob hg h ⟨t, rfl⟩ hd
end
section
variable {K : PySem.W.Frag} {S : List Addr} {σ : L2.St} {H : Hp} {ta tb te : TE} {d x : PyData} {ds : List PyData} {b : Bool}
theorem ev_lenD (h : EvD K S te σ H d) (hs : isSeqD d = true) : Ev (tCB (rLenS K) (tCons te tNil)) σ H (.int ((seqD d).length : Int)) := fun H1 e Q q =>
  h H1 e _ fun v H2 e2 f => by
    cases d with
    | list ds =>
      obtain ⟨a, xs, rfl, hl, hx⟩ := dp_lst f
      exact ⟨a, xs, rfl, .inl (ex_l (cut_le S H2) hl), by rw [dpa_len hx]; exact q H2 e2⟩
    | tuple ds =>
      obtain ⟨a, xs, rfl, hl, hx⟩ := dp_tup f
      exact ⟨a, xs, rfl, .inr (ex_t (cut_le S H2) hl), by rw [dpa_len hx]; exact q H2 e2⟩
    | _ => cases hs
theorem ed_ixS {i : Int} (ha : EvD K S ta σ H d) (hs : isSeqD d = true) (hb : EvD K S tb σ H (.int i)) (q : atI (seqD d) i = some x) : EvD K S (tOp (rIx K) ta tb) σ H x :=
  ed_op ha hb fun v w H1 e f g Q k => by
    obtain rfl := dp_int g
    cases d with
    | list ds =>
      obtain ⟨a, xs, rfl, hl, hx⟩ := dp_lst f
      obtain ⟨v, hv, hd⟩ := atI_dpa hx q
      exact .inl ⟨a, xs, i, v, rfl, rfl, ex_l (cut_le S H1) hl, hv, k v H1 (Ex.refl H1) hd⟩
    | tuple ds =>
      obtain ⟨a, xs, rfl, hl, hx⟩ := dp_tup f
      obtain ⟨v, hv, hd⟩ := atI_dpa hx q
      exact .inr (.inl ⟨a, xs, i, v, rfl, rfl, ex_t (cut_le S H1) hl, hv, k v H1 (Ex.refl H1) hd⟩)
    | _ => cases hs
end
section
variable {σ : L2.St} {H : Hp} {ta tb tc : TE}
/-- a <= b <= c of ints -/
theorem ev_chain {a b c : Int} (ha : Ev ta σ H (.int a)) (hb : Ev tb σ H (.int b)) (hc : Ev tc σ H (.int c)) :
    Ev (tChain (rI0 fun i j => .bl (decide (i ≤ j))) (rI0 fun i j => .bl (decide (i ≤ j))) ta tb tc) σ H (.bl (decide (a ≤ b) && decide (b ≤ c))) := fun H1 e Q q =>
  ha H1 e _ fun H2 e2 => hb H2 (e.trans e2) _ fun H3 e3 => ⟨a, b, rfl, rfl, _, rfl, by
    by_cases h : a ≤ b
    · rw [decide_eq_true h, if_pos rfl]
      exact hc H3 ((e.trans e2).trans e3) _ fun H4 e4 => ⟨b, c, rfl, rfl, by
        rw [decide_eq_true h] at q
        exact q H4 ((e2.trans e3).trans e4)⟩
    · rw [decide_eq_false h] at q ⊢
      rw [if_neg Bool.false_ne_true]
      exact q H3 (e2.trans e3)⟩
end
section
variable {P : Program} {w : World} {K : PySem.W.Frag} {mg : Str → Option Value} {base : Heap} {f : Addr} {fd : FuncData}
def R2 (g : PyData → PyData → PyData) : List PyData → PyData → Prop := fun ds d => ∃ x y, ds = [x, y] ∧ d = g x y
theorem ev_ask {K : PySem.W.Frag} {S : List Addr} {σ : L2.St} {H : Hp} {te : TE} {d : PyData} {g : PyData → Bool} {E : XK} (D : Dom S H) (h : EvD K S te σ H d) :
    Ev (tCall (spD K (R1 fun x => .bool (g x))) [] E (tCons te tNil)) σ H (.bl (g d)) :=
  EvD.bl (K := K) (S := S) (ed_call (R := R1 fun x => .bool (g x)) D (eda_cons h eda_nil) ⟨d, rfl, rfl⟩)
abbrev spIsNumber (K : PySem.W.Frag) : Sp := spD K (R1 fun x => .bool (isNumD x))
abbrev s_is_number : Stmt := topS 6
abbrev N_is_number : List Str := ["value"]
theorem sc_is_number : FnScope N_is_number ["value"] (defScope s_is_number) := ⟨rfl, rfl, rfl, by decide +kernel, rfl, by decide +kernel, by decide +kernel⟩

theorem ok_is_number (F : Fun K "is_number" "is_number" s_is_number f fd) (h_is_integer : Has P w K mg base 1 "is_integer" ["value"] (spIsInteger K)) : FnOk P w K mg base CX0 2 f fd ["value"] (spIsNumber K) := by
  refine F.ok sc_is_number (fun vs H Q E h => ?_) (fun cdv A outer s H vs Q E hr h => ?_)
  · obtain ⟨S, ds, d, _, hv, ⟨x, rfl, rfl⟩, _⟩ := h
    exact dpa_len hv
  · obtain ⟨S, ds, d, D, hv, ⟨x, rfl, rfl⟩, k⟩ := h
    obtain ⟨v, rfl, hx⟩ := dpa1 hv
    have nd := sc_is_number.nd
    have v0 : EvD K S (tVar 0) (start N_is_number [v]) H x := ed_var (i := 0) rfl hx
    refine ⟨_, (pss_one (ps_ret (pe_and (pe_has h_is_integer (hr.mono (by first | decide | omega)) (pa_cons (pv 0) pa_nil)) (pe_one (pe_cmpR op_ge (pv 0) pe_int (nomark _)))))), ?_⟩
    refine s_ret (ev_andV (b := isNumD x) (ed_call D (eda_cons v0 eda_nil) ⟨x, rfl, rfl⟩).bl fun hb => ?_) fun H1 e1 => k _ H1 e1 ?_
    · cases x <;> cases hb
      exact ev_op v0.int ev_c rv_I0
    · cases x <;> exact .bl _
abbrev spIsSequence (K : PySem.W.Frag) : Sp := spD K (R1 fun x => .bool (isSeqD x))
abbrev s_is_sequence : Stmt := topS 8
abbrev N_is_sequence : List Str := ["value"]
theorem sc_is_sequence : FnScope N_is_sequence ["value"] (defScope s_is_sequence) := ⟨rfl, rfl, rfl, by decide +kernel, rfl, by decide +kernel, by decide +kernel⟩

theorem ok_is_sequence (F : Fun K "is_sequence" "is_sequence" s_is_sequence f fd) (T : Nm mg) : FnOk P w K mg base CX0 1 f fd ["value"] (spIsSequence K) := by
  refine F.ok sc_is_sequence (fun vs H Q E h => ?_) (fun cdv A outer s H vs Q E hr h => ?_)
  · obtain ⟨S, ds, d, _, hv, ⟨x, rfl, rfl⟩, _⟩ := h
    exact dpa_len hv
  · obtain ⟨S, ds, d, D, hv, ⟨x, rfl, rfl⟩, k⟩ := h
    obtain ⟨v, rfl, hx⟩ := dpa1 hv
    have nd := sc_is_sequence.nd
    have v0 : EvD K S (tVar 0) (start N_is_sequence [v]) H x := ed_var (i := 0) rfl hx
    refine ⟨_, (pss_one (ps_ret (pe_callB call_isiT (by rfl) T.n_isinstance (by decide +kernel) (pa_cons (pv 0) (pa_cons (pe_tup (pa_cons (pe_bltn (v := .ty "list") (u := .type "list") (by rfl) T.n_list (by decide +kernel) rfl) (pa_cons (pe_bltn (v := .ty "tuple") (u := .type "tuple") (by rfl) T.n_tuple (by decide +kernel) rfl) pa_nil))) pa_nil))))), ?_⟩
    exact s_ret (ev_isi2 v0 (kit_seq x (dp_nd hx))) fun H1 e1 => k _ H1 e1 (.bl _)
abbrev spHasLength (K : PySem.W.Frag) : Sp := spD K (fun ds d => ∃ x n, ds = [x, .int n] ∧ d = .bool (isSeqD x && decide (((seqD x).length : Int) = n)))
abbrev s_has_length : Stmt := topS 9
abbrev N_has_length : List Str := ["value", "length"]
theorem sc_has_length : FnScope N_has_length ["value", "length"] (defScope s_has_length) := ⟨rfl, rfl, rfl, by decide +kernel, rfl, by decide +kernel, by decide +kernel⟩

theorem ok_has_length (F : Fun K "has_length" "has_length" s_has_length f fd) (T : Nm mg) (h_is_sequence : Has P w K mg base 1 "is_sequence" ["value"] (spIsSequence K)) : FnOk P w K mg base CX0 2 f fd ["value", "length"] (spHasLength K) := by
  refine F.ok sc_has_length (fun vs H Q E h => ?_) (fun cdv A outer s H vs Q E hr h => ?_)
  · obtain ⟨S, ds, d, _, hv, ⟨x, n, rfl, rfl⟩, _⟩ := h
    exact dpa_len hv
  · obtain ⟨S, ds, d, D, hv, ⟨x, n, rfl, rfl⟩, k⟩ := h
    obtain ⟨v, u, rfl, hx, hn⟩ := dpa2 hv
    have nd := sc_has_length.nd
    have v0 : EvD K S (tVar 0) (start N_has_length [v, u]) H x := ed_var (i := 0) rfl hx
    have v1 : EvD K S (tVar 1) (start N_has_length [v, u]) H (.int n) := ed_var (i := 1) rfl hn
    refine ⟨_, (pss_one (ps_ret (pe_and (pe_has h_is_sequence (hr.mono (by first | decide | omega)) (pa_cons (pv 0) pa_nil)) (pe_one (pe_cmpR op_eq (pe_callB call_len_seq (by rfl) T.n_len (by decide +kernel) (pa_cons (pv 0) pa_nil)) (pv 1) (nomark _)))))), ?_⟩
    refine s_ret (ev_andV (ed_call D (eda_cons v0 eda_nil) ⟨x, rfl, rfl⟩).bl fun hb => ev_op (ev_lenD v0 hb) v1.int (rv_eq rfl)) fun H1 e1 => k _ H1 e1 ?_
    rw [dec_int, Bool.beq_eq_decide_eq]
    exact .bl _
theorem inV_word (s : Str) : inV (.str s) [.str "all", .str "any"] = isWordD (.str s) := by
  show (("all" : Str) == s || (("any" : Str) == s || false)) = (s == "all" || s == "any")
  rw [Bool.or_false, Bool.beq_comm (a := ("all" : Str)), Bool.beq_comm (a := ("any" : Str))]
abbrev spIsWord (K : PySem.W.Frag) : Sp := spD K (R1 fun x => .bool (isWordD x))
abbrev s_is_word : Stmt := topS 10
abbrev N_is_word : List Str := ["value"]
theorem sc_is_word : FnScope N_is_word ["value"] (defScope s_is_word) := ⟨rfl, rfl, rfl, by decide +kernel, rfl, by decide +kernel, by decide +kernel⟩

theorem ok_is_word (F : Fun K "is_word" "is_word" s_is_word f fd) (T : Nm mg) : FnOk P w K mg base CX0 1 f fd ["value"] (spIsWord K) := by
  refine F.ok sc_is_word (fun vs H Q E h => ?_) (fun cdv A outer s H vs Q E hr h => ?_)
  · obtain ⟨S, ds, d, _, hv, ⟨x, rfl, rfl⟩, _⟩ := h
    exact dpa_len hv
  · obtain ⟨S, ds, d, D, hv, ⟨x, rfl, rfl⟩, k⟩ := h
    obtain ⟨v, rfl, hx⟩ := dpa1 hv
    have nd := sc_is_word.nd
    have v0 : EvD K S (tVar 0) (start N_is_word [v]) H x := ed_var (i := 0) rfl hx
    refine ⟨_, (pss_one (ps_ret (pe_and (pe_callB call_isi (by rfl) T.n_isinstance (by decide +kernel) (pa_cons (pv 0) (pa_cons (pe_bltn (v := .ty "str") (u := .type "str") (by rfl) T.n_str (by decide +kernel) rfl) pa_nil))) (pe_one (pe_cmpR op_in_seq (pv 0) (pe_tup (pa_cons pe_str (pa_cons pe_str pa_nil))) (by rfl)))))), ?_⟩
    refine s_ret (ev_andV (b := isWordD x) (ev_isi v0 (kit_str x (dp_nd hx))) fun hb => ?_) fun H1 e1 => k _ H1 e1 ?_
    · cases x with
      | str s => exact ev_is (ev_inU v0.str (eu_tup (ea_cons ev_c (ea_cons ev_c ea_nil)) (by decide)) rfl rfl) (by rw [inV_word])
      | _ => cases hb
    · cases x <;> exact .bl _
/-- the form of a knot -/
def formD (d : PyData) : Bool := match seqD d with
  | [a, b] => isWordD a && isSeqD b && decide (2 ≤ (seqD b).length) && decide ((seqD b).length ≤ 200)
  | _ => false
structure Nw (mg : Str → Option Value) : Prop extends Nm mg where
  g_MOST_LEVERS : ∃ t, mg "MOST_LEVERS" = some (.int 200 t)
abbrev spForm (K : PySem.W.Frag) : Sp := spD K (R1 fun x => .bool (formD x))
abbrev s_has_knot_form : Stmt := topS 15
abbrev N_has_knot_form : List Str := ["value"]
theorem sc_has_knot_form : FnScope N_has_knot_form ["value"] (defScope s_has_knot_form) := ⟨rfl, rfl, rfl, by decide +kernel, rfl, by decide +kernel, by decide +kernel⟩

theorem ok_has_knot_form (F : Fun K "has_knot_form" "has_knot_form" s_has_knot_form f fd) (T : Nw mg) (h_has_length : Has P w K mg base 2 "has_length" ["value", "length"] (spHasLength K)) (h_is_word : Has P w K mg base 1 "is_word" ["value"] (spIsWord K))
    (h_is_sequence : Has P w K mg base 1 "is_sequence" ["value"] (spIsSequence K)) : FnOk P w K mg base CX0 3 f fd ["value"] (spForm K) := by
  refine F.ok sc_has_knot_form (fun vs H Q E h => ?_) (fun cdv A outer s H vs Q E hr h => ?_)
  · obtain ⟨S, ds, d, _, hv, ⟨x, rfl, rfl⟩, _⟩ := h
    exact dpa_len hv
  · obtain ⟨S, ds, d, D, hv, ⟨x, rfl, rfl⟩, k⟩ := h
    obtain ⟨v, rfl, hx⟩ := dpa1 hv
    have nd := sc_has_knot_form.nd
    have v0 : EvD K S (tVar 0) (start N_has_knot_form [v]) H x := ed_var (i := 0) rfl hx
    refine ⟨_, (pss_cons (ps_if (PW.pt (pw_or (pt_not (pt_val (pe_has h_has_length (hr.mono (by first | decide | omega)) (pa_cons (pv 0) (pa_cons pe_int pa_nil))))) (pw_or (pt_not (pt_val (pe_has h_is_word (hr.mono (by first | decide | omega)) (pa_cons (pe_ix ix_seq (pv 0) pe_int (fun _ _ => rfl)) pa_nil)))) (pw_or1 (pt_not (pt_val (pe_has h_is_sequence (hr.mono (by first | decide | omega)) (pa_cons (pe_ix ix_seq (pv 0) pe_int (fun _ _ => rfl)) pa_nil)))))))) (pss_one (ps_ret pe_bl)) pss_nil)
  (pss_one (ps_ret (pe_chain op_le op_le pe_int (pe_callB call_len_seq (by rfl) T.n_len (by decide +kernel) (pa_cons (pe_ix ix_seq (pv 0) pe_int (fun _ _ => rfl)) pa_nil)) (pe_g T.g_MOST_LEVERS))))), ?_⟩
    have hl : Ev (tCall (spHasLength K) [] E0 (tCons (tVar 0) (tCons (tC (.int 2)) tNil))) (start N_has_knot_form [v]) H (.bl (isSeqD x && decide (((seqD x).length : Int) = 2))) :=
      EvD.bl (K := K) (S := S) (ed_call (R := fun ds d => ∃ x n, ds = [x, .int n] ∧ d = .bool (isSeqD x && decide (((seqD x).length : Int) = n))) D (eda_cons v0 (eda_cons (ed_int (i := 2)) eda_nil)) ⟨x, 2, rfl, rfl⟩)
    have no : ∀ H1, Ex H H1 → formD x = false → tRet (tC (.bl false)) { nx := fun σ H' => Q .non H', rt := Q } (start N_has_knot_form [v]) H1 := fun H1 e1 hf => by
      refine k _ H1 e1 ?_
      show Dp K _ _ (.bool (formD x))
      rw [hf]
      exact .bl _
    by_cases h2 : isSeqD x = true ∧ (seqD x).length = 2
    · obtain ⟨hs, hlen⟩ := h2
      obtain ⟨a, b, hab⟩ : ∃ a b, seqD x = [a, b] := by
        match hq : seqD x, hlen with
        | [a, b], _ => exact ⟨a, b, rfl⟩
      have i0 : EvD K S (tOp (rIx K) (tVar 0) (tC (.int 0))) (start N_has_knot_form [v]) H a := ed_ixS v0 hs ed_int (by rw [hab]; rfl)
      have i1 : EvD K S (tOp (rIx K) (tVar 0) (tC (.int 1))) (start N_has_knot_form [v]) H b := ed_ixS v0 hs ed_int (by rw [hab]; rfl)
      have hfd : formD x = (isWordD a && isSeqD b && decide (2 ≤ (seqD b).length) && decide ((seqD b).length ≤ 200)) := by unfold formD; rw [hab]
      have c0 : Ev (tCall (spIsWord K) [] E0 (tCons (tOp (rIx K) (tVar 0) (tC (.int 0))) tNil)) (start N_has_knot_form [v]) H (.bl (isWordD a)) := ev_ask D i0
      have c1 : Ev (tCall (spIsSequence K) [] E0 (tCons (tOp (rIx K) (tVar 0) (tC (.int 1))) tNil)) (start N_has_knot_form [v]) H (.bl (isSeqD b)) := ev_ask D i1
      refine q_when (et_or (et_not (et_B hl)) fun _ => et_or (et_not (et_B c0)) fun _ => et_not (et_B c1)) (fun hb H1 e1 => no H1 e1 ?_) fun hb H1 e1 => ?_
      · rw [hfd]
        rw [hs, hlen] at hb
        cases h3 : isWordD a
        · rfl
        · cases h4 : isSeqD b
          · rfl
          · rw [h3, h4] at hb
            simp at hb
      · have h3 : isWordD a = true ∧ isSeqD b = true := by
          cases h3 : isWordD a
          · rw [h3] at hb; simp at hb
          · cases h4 : isSeqD b
            · rw [h4] at hb; simp at hb
            · exact ⟨rfl, rfl⟩
        rw [h3.1, h3.2, Bool.true_and, Bool.true_and] at hfd
        refine (ev_chain (ev_c.mono e1) ((ev_lenD i1 h3.2).mono e1) ev_c) H1 (Ex.refl H1) _ fun H2 e2 => k _ H2 (e1.trans e2) ?_
        show Dp K _ _ (.bool (formD x))
        rw [hfd]
        have e3 : (decide ((2 : Int) ≤ ((seqD b).length : Int)) && decide (((seqD b).length : Int) ≤ 200)) = (decide (2 ≤ (seqD b).length) && decide ((seqD b).length ≤ 200)) := by
          rw [Bool.eq_iff_iff]
          simp
          omega
        rw [e3]
        exact .bl _
    · have hf : formD x = false := by
        unfold formD
        split
        · next a b hq =>
          have h3 : isSeqD x = true := by cases x <;> first | rfl | (exact nomatch hq)
          exact absurd ⟨h3, by rw [hq]; rfl⟩ h2
        · rfl
      have hb : (isSeqD x && decide (((seqD x).length : Int) = 2)) = false := by
        rw [Bool.eq_false_iff]
        intro z
        rw [Bool.and_eq_true, decide_eq_true_eq] at z
        exact h2 ⟨z.1, by omega⟩
      refine q_when (b := true) (et_is (et_or (b := true) (et_not (et_B hl)) fun z => ?_) (by rw [hb]; rfl)) (fun _ H1 e1 => no H1 e1 hf) (fun z => nomatch z)
      rw [hb] at z
      cases z
end
end Dl

set_option Elab.async false
set_option maxRecDepth 100000
set_option maxHeartbeats 4000000
set_option linter.all false
/-! the rows of a tree: the object, its methods -/
namespace Dl
open PySem L2 Evl Dt
structure WAd where
  a : Addr
  dx : Addr
  aw : Addr
  al : Addr
  ap : Addr
  ab : Addr
  ar : Addr
  ad : Addr
  ps : List Addr
def WAd.all (A : WAd) : List Addr := [A.a, A.dx, A.aw, A.al, A.ap, A.ab, A.ar, A.ad] ++ A.ps
/-- one row; sub: what it stands for (the program has it nowhere) -/
structure Row (τ : Type) where
  word : Str
  lever : Int
  parts : List Nat
  above : Int
  rank : Int
  sub : τ
def wf (A : WAd) (n : Int) : List (Str × V) := [("words", .ref A.aw), ("levers", .ref A.al), ("parts", .ref A.ap), ("above", .ref A.ab), ("ranks", .ref A.ar), ("rows", .ref A.ad), ("many", .int n)]
theorem wf_words (A : WAd) (n : Int) : (wf A n).lookup ("words" : Str) = some (.ref A.aw) := rfl
theorem wf_levers (A : WAd) (n : Int) : (wf A n).lookup ("levers" : Str) = some (.ref A.al) := rfl
theorem wf_parts (A : WAd) (n : Int) : (wf A n).lookup ("parts" : Str) = some (.ref A.ap) := rfl
theorem wf_above (A : WAd) (n : Int) : (wf A n).lookup ("above" : Str) = some (.ref A.ab) := rfl
theorem wf_ranks (A : WAd) (n : Int) : (wf A n).lookup ("ranks" : Str) = some (.ref A.ar) := rfl
theorem wf_rows (A : WAd) (n : Int) : (wf A n).lookup ("rows" : Str) = some (.ref A.ad) := rfl
theorem wf_many (A : WAd) (n : Int) : (wf A n).lookup ("many" : Str) = some (.int n) := rfl
theorem wf_row (A : WAd) (n : Int) : (wf A n).lookup ("put_row" : Str) = none := rfl
theorem wf_lever (A : WAd) (n : Int) : (wf A n).lookup ("put_lever" : Str) = none := rfl
theorem wf_knot (A : WAd) (n : Int) : (wf A n).lookup ("put_knot" : Str) = none := rfl
theorem wf_put (A : WAd) (n m : Int) : putF "many" (.int m) (wf A n) = wf A m := rfl
theorem wf_new (A : WAd) : putF "many" (.int 0) (putF "rows" (.ref A.ad) (putF "ranks" (.ref A.ar) (putF "above" (.ref A.ab) (putF "parts" (.ref A.ap) (putF "levers" (.ref A.al) (putF "words" (.ref A.aw) [])))))) = wf A 0 := rfl
structure WNe (A : WAd) : Prop where
  wl : A.aw ≠ A.al
  wp : A.aw ≠ A.ap
  wb : A.aw ≠ A.ab
  wr : A.aw ≠ A.ar
  lp : A.al ≠ A.ap
  lb : A.al ≠ A.ab
  lr : A.al ≠ A.ar
  pb : A.ap ≠ A.ab
  pr : A.ap ≠ A.ar
  br : A.ab ≠ A.ar
  qw : A.aw ∉ A.ps
  ql : A.al ∉ A.ps
  qp : A.ap ∉ A.ps
  qb : A.ab ∉ A.ps
  qr : A.ar ∉ A.ps
  nd : A.ps.Nodup
structure WkAt {τ : Type} (C : Addr) (H : Hp) (A : WAd) (n : Int) (rs : List (Row τ)) (kvs : List (Key × V)) : Prop where
  ne : WNe A
  ha : H A.a = some (.ins C A.dx (wf A n))
  hdx : H A.dx = some (.own A.a)
  hw : H A.aw = some (.lst (rs.map fun r => .str r.word))
  hl : H A.al = some (.lst (rs.map fun r => .int r.lever))
  hp : H A.ap = some (.lst (A.ps.map .ref))
  hb : H A.ab = some (.lst (rs.map fun r => .int r.above))
  hr : H A.ar = some (.lst (rs.map fun r => .int r.rank))
  hd : H A.ad = some (.dK kvs)
  len : A.ps.length = rs.length
  hq : ∀ (i : Nat) (p : Addr) (r : Row τ), A.ps[i]? = some p → rs[i]? = some r → H p = some (.lst (r.parts.map fun c => .int ((c : Nat) : Int)))
structure WT (K : PySem.W.Frag) (C : Addr) : Prop where
  cl : Cls K C
  nw : NoAttr K C "words"
  nl : NoAttr K C "levers"
  np : NoAttr K C "parts"
  nb : NoAttr K C "above"
  nr : NoAttr K C "ranks"
  nd : NoAttr K C "rows"
  nm : NoAttr K C "many"
/-- a row more, below the row `above` (-1: nowhere) -/
def putRow {τ : Type} (rs : List (Row τ)) (word : Str) (lever above : Int) (sub : τ) : List (Row τ) :=
  (if 0 ≤ above then rs.modify above.toNat (fun r => { r with parts := r.parts ++ [rs.length] }) else rs) ++
    [{ word := word, lever := lever, parts := [], above := above, rank := (if 0 ≤ above then ((rs[above.toNat]?.map fun (r : Row τ) => r.parts.length).getD 0 : Nat) else 0 : Nat), sub := sub }]
theorem pl0 {f : Str} {v : V} : (putF f v []).length ≤ 1 := length_putF f v []
theorem pl1 {f : Str} {v : V} {fs : List (Str × V)} {n : Nat} (h : fs.length ≤ n) : (putF f v fs).length ≤ n + 1 := Nat.le_trans (length_putF f v fs) (Nat.succ_le_succ h)
theorem g2 {G : Hp} {l p : Addr} {o u u0 : HO} (hp : G p = some u0) (hl : G l = none) : l ≠ p ∧ (upd (upd G l o) p u) p = some u ∧ (upd (upd G l o) p u) l = some o ∧
    ∀ b x, G b = some x → b ≠ p → b ≠ l ∧ (upd (upd G l o) p u) b = some x := by
  have e : l ≠ p := fun z => by rw [z, hp] at hl; cases hl
  refine ⟨e, upd_same, by rw [upd_ne e, upd_same], fun b x hb hn => ?_⟩
  have e2 : b ≠ l := ne_of_none hb hl
  exact ⟨e2, by rw [upd_ne hn, upd_ne e2]; exact hb⟩
section
variable {P : Program} {w : World} {K : PySem.W.Frag} {mg : Str → Option Value} {base : Heap} {f C : Addr} {fd : FuncData} {τ : Type}
def spWInit (τ : Type) (C : Addr) : Sp := fun vs H Q _ => ∃ (p dx : Addr), vs = [.ref p] ∧ H p = some (.ins C dx []) ∧ H dx = some (.own p) ∧
  ∀ (H' : Hp) (A : WAd), A.a = p → A.dx = dx → A.ps = [] → WkAt (τ := τ) C H' A 0 [] [] → (∀ b o, H b = some o → b ≠ p → H' b = some o) → (∀ b ∈ A.all, b = p ∨ b = dx ∨ H b = none) → Q .non H'
abbrev s_Walk_init : Stmt := inClass (topS 14) 0
abbrev N_Walk_init : List Str := ["self"]
theorem sc_Walk_init : FnScope N_Walk_init ["self"] (defScope s_Walk_init) := ⟨rfl, rfl, rfl, by decide +kernel, rfl, by decide +kernel, by decide +kernel⟩

theorem ok_winit (F : Fun K "__init__" "Walk.__init__" s_Walk_init f fd) (T : WT K C) : FnOk P w K mg base CX0 1 f fd ["self"] (spWInit τ C) := by
  refine F.ok sc_Walk_init (fun vs H Q E h => ?_) (fun cdv A outer s H vs Q E hr h => ?_)
  · obtain ⟨p, dx, rfl, _⟩ := h
    rfl
  · obtain ⟨p, dx, rfl, hp, hdx, k⟩ := h
    have nd := sc_Walk_init.nd
    refine ⟨_, (pss_cons (ps_fld (pv 0) (pe_lst pa_nil) rfl)
  (pss_cons (ps_fld (pv 0) (pe_lst pa_nil) rfl)
  (pss_cons (ps_fld (pv 0) (pe_lst pa_nil) rfl)
  (pss_cons (ps_fld (pv 0) (pe_lst pa_nil) rfl)
  (pss_cons (ps_fld (pv 0) (pe_lst pa_nil) rfl)
  (pss_cons (ps_fld (pv 0) pe_dnewK rfl)
  (pss_one (ps_fld (pv 0) pe_int rfl)))))))), ?_⟩
    refine ⟨Nat.zero_le _, fun l1 n1 => ⟨_, rfl, p, C, dx, [], rfl, Eq.trans (upd_ne (ne_of_none hp n1)) hp, T.cl, T.nw, by decide, ?_⟩⟩
    obtain ⟨m1, a1, b1, c1⟩ := g2 (o := .lst []) (u := .ins C dx (putF "words" (.ref l1) [])) hp n1
    generalize upd (upd H l1 (.lst [])) p (.ins C dx (putF "words" (.ref l1) [])) = G1 at a1 b1 c1 ⊢
    refine ⟨Nat.zero_le _, fun l2 n2 => ⟨_, rfl, p, C, dx, (putF "words" (.ref l1) []), rfl, Eq.trans (upd_ne (ne_of_none a1 n2)) a1, T.cl, T.nl, Nat.lt_of_le_of_lt pl0 (by decide), ?_⟩⟩
    obtain ⟨m2, a2, b2, c2⟩ := g2 (o := .lst []) (u := .ins C dx (putF "levers" (.ref l2) (putF "words" (.ref l1) []))) a1 n2
    generalize upd (upd G1 l2 (.lst [])) p (.ins C dx (putF "levers" (.ref l2) (putF "words" (.ref l1) []))) = G2 at a2 b2 c2 ⊢
    refine ⟨Nat.zero_le _, fun l3 n3 => ⟨_, rfl, p, C, dx, (putF "levers" (.ref l2) (putF "words" (.ref l1) [])), rfl, Eq.trans (upd_ne (ne_of_none a2 n3)) a2, T.cl, T.np, Nat.lt_of_le_of_lt (pl1 pl0) (by decide), ?_⟩⟩
    obtain ⟨m3, a3, b3, c3⟩ := g2 (o := .lst []) (u := .ins C dx (putF "parts" (.ref l3) (putF "levers" (.ref l2) (putF "words" (.ref l1) [])))) a2 n3
    generalize upd (upd G2 l3 (.lst [])) p (.ins C dx (putF "parts" (.ref l3) (putF "levers" (.ref l2) (putF "words" (.ref l1) [])))) = G3 at a3 b3 c3 ⊢
    refine ⟨Nat.zero_le _, fun l4 n4 => ⟨_, rfl, p, C, dx, (putF "parts" (.ref l3) (putF "levers" (.ref l2) (putF "words" (.ref l1) []))), rfl, Eq.trans (upd_ne (ne_of_none a3 n4)) a3, T.cl, T.nb, Nat.lt_of_le_of_lt (pl1 (pl1 pl0)) (by decide), ?_⟩⟩
    obtain ⟨m4, a4, b4, c4⟩ := g2 (o := .lst []) (u := .ins C dx (putF "above" (.ref l4) (putF "parts" (.ref l3) (putF "levers" (.ref l2) (putF "words" (.ref l1) []))))) a3 n4
    generalize upd (upd G3 l4 (.lst [])) p (.ins C dx (putF "above" (.ref l4) (putF "parts" (.ref l3) (putF "levers" (.ref l2) (putF "words" (.ref l1) []))))) = G4 at a4 b4 c4 ⊢
    refine ⟨Nat.zero_le _, fun l5 n5 => ⟨_, rfl, p, C, dx, (putF "above" (.ref l4) (putF "parts" (.ref l3) (putF "levers" (.ref l2) (putF "words" (.ref l1) [])))), rfl, Eq.trans (upd_ne (ne_of_none a4 n5)) a4, T.cl, T.nr, Nat.lt_of_le_of_lt (pl1 (pl1 (pl1 pl0))) (by decide), ?_⟩⟩
    obtain ⟨m5, a5, b5, c5⟩ := g2 (o := .lst []) (u := .ins C dx (putF "ranks" (.ref l5) (putF "above" (.ref l4) (putF "parts" (.ref l3) (putF "levers" (.ref l2) (putF "words" (.ref l1) [])))))) a4 n5
    generalize upd (upd G4 l5 (.lst [])) p (.ins C dx (putF "ranks" (.ref l5) (putF "above" (.ref l4) (putF "parts" (.ref l3) (putF "levers" (.ref l2) (putF "words" (.ref l1) [])))))) = G5 at a5 b5 c5 ⊢
    refine (fun l6 n6 => ⟨_, rfl, p, C, dx, (putF "ranks" (.ref l5) (putF "above" (.ref l4) (putF "parts" (.ref l3) (putF "levers" (.ref l2) (putF "words" (.ref l1) []))))), rfl, Eq.trans (upd_ne (ne_of_none a5 n6)) a5, T.cl, T.nd, Nat.lt_of_le_of_lt (pl1 (pl1 (pl1 (pl1 pl0)))) (by decide), ?_⟩)
    obtain ⟨m6, a6, b6, c6⟩ := g2 (o := .dK []) (u := .ins C dx (putF "rows" (.ref l6) (putF "ranks" (.ref l5) (putF "above" (.ref l4) (putF "parts" (.ref l3) (putF "levers" (.ref l2) (putF "words" (.ref l1) []))))))) a5 n6
    generalize upd (upd G5 l6 (.dK [])) p (.ins C dx (putF "rows" (.ref l6) (putF "ranks" (.ref l5) (putF "above" (.ref l4) (putF "parts" (.ref l3) (putF "levers" (.ref l2) (putF "words" (.ref l1) []))))))) = G6 at a6 b6 c6 ⊢
    refine ⟨_, rfl, p, C, dx, _, rfl, a6, T.cl, T.nm, Nat.lt_of_le_of_lt (pl1 (pl1 (pl1 (pl1 (pl1 pl0))))) (by decide), ?_⟩
    have up : ∀ {b : Addr} {x : HO}, H b = some x → b ≠ p → G6 b = some x := fun h e => (c6 _ _ (c5 _ _ (c4 _ _ (c3 _ _ (c2 _ _ (c1 _ _ h e).2 e).2 e).2 e).2 e).2 e).2
    have q12 := c2 _ _ b1 m1
    have q13 := c3 _ _ q12.2 m1
    have q14 := c4 _ _ q13.2 m1
    have q15 := c5 _ _ q14.2 m1
    have q16 := c6 _ _ q15.2 m1
    have q23 := c3 _ _ b2 m2
    have q24 := c4 _ _ q23.2 m2
    have q25 := c5 _ _ q24.2 m2
    have q26 := c6 _ _ q25.2 m2
    have q34 := c4 _ _ b3 m3
    have q35 := c5 _ _ q34.2 m3
    have q36 := c6 _ _ q35.2 m3
    have q45 := c5 _ _ b4 m4
    have q46 := c6 _ _ q45.2 m4
    have q56 := c6 _ _ b5 m5
    have np : ∀ {b : Addr}, b ≠ p → upd G6 p (.ins C dx (putF "many" (.int 0) (putF "rows" (.ref l6) (putF "ranks" (.ref l5) (putF "above" (.ref l4) (putF "parts" (.ref l3) (putF "levers" (.ref l2) (putF "words" (.ref l1) [])))))))) b = G6 b := fun e => upd_ne e
    have dp : dx ≠ p := fun z => by rw [z, hp] at hdx; cases hdx
    have f2 : H l2 = none := by
      cases z : H l2 with
      | none => rfl
      | some o => exact absurd (c1 _ _ z m2).2 (by rw [n2]; exact fun z => nomatch z)
    have f3 : H l3 = none := by
      cases z : H l3 with
      | none => rfl
      | some o => exact absurd (c2 _ _ (c1 _ _ z m3).2 m3).2 (by rw [n3]; exact fun z => nomatch z)
    have f4 : H l4 = none := by
      cases z : H l4 with
      | none => rfl
      | some o => exact absurd (c3 _ _ (c2 _ _ (c1 _ _ z m4).2 m4).2 m4).2 (by rw [n4]; exact fun z => nomatch z)
    have f5 : H l5 = none := by
      cases z : H l5 with
      | none => rfl
      | some o => exact absurd (c4 _ _ (c3 _ _ (c2 _ _ (c1 _ _ z m5).2 m5).2 m5).2 m5).2 (by rw [n5]; exact fun z => nomatch z)
    have f6 : H l6 = none := by
      cases z : H l6 with
      | none => rfl
      | some o => exact absurd (c5 _ _ (c4 _ _ (c3 _ _ (c2 _ _ (c1 _ _ z m6).2 m6).2 m6).2 m6).2 m6).2 (by rw [n6]; exact fun z => nomatch z)
    refine k _ ⟨p, dx, l1, l2, l3, l4, l5, l6, []⟩ rfl rfl rfl ⟨⟨q12.1, q13.1, q14.1, q15.1, q23.1, q24.1, q25.1, q34.1, q35.1, q45.1, by simp, by simp, by simp, by simp, by simp, List.nodup_nil⟩, upd_same, ?_, ?_, ?_, ?_, ?_, ?_, ?_, rfl, fun i p r h => by simp at h⟩ (fun b o h e => ?_) fun b hb => ?_
    · exact (np dp).trans (up hdx dp)
    · exact (np m1).trans q16.2
    · exact (np m2).trans q26.2
    · exact (np m3).trans q36.2
    · exact (np m4).trans q46.2
    · exact (np m5).trans q56.2
    · exact (np m6).trans b6
    · exact (np e).trans (up h e)
    · simp only [WAd.all, List.append_nil, List.mem_cons, List.not_mem_nil, or_false] at hb
      rcases hb with h | h | h | h | h | h | h | h
      · exact .inl h
      · exact .inr (.inl h)
      · exact .inr (.inr (h ▸ n1))
      · exact .inr (.inr (h ▸ f2))
      · exact .inr (.inr (h ▸ f3))
      · exact .inr (.inr (h ▸ f4))
      · exact .inr (.inr (h ▸ f5))
      · exact .inr (.inr (h ▸ f6))
end
end Dl

set_option Elab.async false
set_option maxRecDepth 100000
set_option maxHeartbeats 4000000
set_option linter.all false
namespace Dl
open PySem L2 Evl Dt
section
variable {P : Program} {w : World} {K : PySem.W.Frag} {mg : Str → Option Value} {base : Heap} {f C : Addr} {fd : FuncData} {τ : Type}
theorem get_ps {A : WAd} {τ : Type} {rs : List (Row τ)} (len : A.ps.length = rs.length) {i : Nat} (h : i < rs.length) : ∃ p r, A.ps[i]? = some p ∧ rs[i]? = some r :=
  ⟨A.ps[i], rs[i], by simp [len, h], by simp [h]⟩
theorem atI_map {α : Type} {g : α → V} {xs : List α} {i : Nat} {x : α} (h : xs[i]? = some x) : atI (xs.map g) ((i : Nat) : Int) = some (g x) := atI_nat (by rw [List.getElem?_map, h]; rfl)
theorem ps_ne {xs : List Addr} (nd : xs.Nodup) {i j : Nat} {p q : Addr} (hi : xs[i]? = some p) (hj : xs[j]? = some q) (h : i ≠ j) : p ≠ q := fun e => by
  subst e
  exact h (nd_ix nd hi hj)
theorem map_modify {α β : Type} {g : α → β} {u : α → α} (h : ∀ x, g (u x) = g x) : ∀ (xs : List α) (i : Nat), (xs.modify i u).map g = xs.map g
  | [], i => by simp
  | x :: xs, 0 => by simp [h]
  | x :: xs, i + 1 => by simp [map_modify h xs i]
theorem get_modify {α : Type} {u : α → α} : ∀ (xs : List α) (i j : Nat), (xs.modify i u)[j]? = (xs[j]?).map fun x => if j = i then u x else x
  | [], i, j => by simp
  | x :: xs, 0, 0 => by simp
  | x :: xs, 0, j + 1 => by
    simp
  | x :: xs, i + 1, 0 => by simp
  | x :: xs, i + 1, j + 1 => by
    have h := get_modify xs i j (u := u)
    simp only [List.modify_succ_cons, List.getElem?_cons_succ, h, Nat.succ.injEq, Nat.add_right_cancel_iff]
theorem a2 {G : Hp} {l : Addr} {o : HO} : (upd G l o) l = some o ∧ (∀ b x, G b = some x → b ≠ l → upd G l o b = some x) ∧ ∀ b, upd G l o b = none → G b = none :=
  ⟨upd_same, fun _ _ h e => (upd_ne e).trans h, fun b h => by
    by_cases e : b = l
    · subst e
      rw [upd_same] at h
      cases h
    · rwa [upd_ne e] at h⟩
theorem wk_keep {C : Addr} {H G : Hp} {A : WAd} {τ : Type} {n : Int} {rs : List (Row τ)} {kvs : List (Key × V)} (W : WkAt C H A n rs kvs) (k : ∀ b o, H b = some o → b ∈ A.all → G b = some o) : WkAt C G A n rs kvs := by
  have m : ∀ b, b ∈ [A.a, A.dx, A.aw, A.al, A.ap, A.ab, A.ar, A.ad] → b ∈ A.all := fun b h => List.mem_append_left _ h
  exact ⟨W.ne, k _ _ W.ha (m _ (by simp)), k _ _ W.hdx (m _ (by simp)), k _ _ W.hw (m _ (by simp)), k _ _ W.hl (m _ (by simp)), k _ _ W.hp (m _ (by simp)), k _ _ W.hb (m _ (by simp)), k _ _ W.hr (m _ (by simp)), k _ _ W.hd (m _ (by simp)), W.len,
    fun i p r hp hr => k _ _ (W.hq i p r hp hr) (List.mem_append_right _ (List.mem_of_getElem? hp))⟩
def spPutRow (τ : Type) (C : Addr) : Sp := fun vs H Q _ => ∃ (A : WAd) (n : Int) (rs : List (Row τ)) (kvs : List (Key × V)) (word : Str) (lever above : Int) (sub : τ),
  vs = [.ref A.a, .str word, .int lever, .int above] ∧ WkAt C H A n rs kvs ∧ rs.length ≤ 1000 ∧ above < rs.length ∧ (∀ r ∈ rs, r.parts.length ≤ 1000) ∧
  ∀ (H' : Hp) (q : Addr), H q = none → WkAt C H' { A with ps := A.ps ++ [q] } n (putRow rs word lever above sub) kvs → (∀ b o, H b = some o → b ∉ A.all → H' b = some o) → Q (.int rs.length) H'
abbrev s_Walk_put_row : Stmt := inClass (topS 14) 3
abbrev N_Walk_put_row : List Str := ["self", "word", "lever", "above", "row", "rank"]
theorem sc_Walk_put_row : FnScope N_Walk_put_row ["self", "word", "lever", "above"] (defScope s_Walk_put_row) := ⟨rfl, rfl, rfl, by decide +kernel, rfl, by decide +kernel, by decide +kernel⟩

theorem ok_put_row (F : Fun K "put_row" "Walk.put_row" s_Walk_put_row f fd) (Z : WT K C) (T : Nm mg) : FnOk P w K mg base CX0 1 f fd ["self", "word", "lever", "above"] (spPutRow τ C) := by
  refine F.ok sc_Walk_put_row (fun vs H Q E h => ?_) (fun cdv A' outer s H vs Q E hr h => ?_)
  · obtain ⟨A, n, rs, kvs, word, lever, above, sub, rfl, _⟩ := h
    rfl
  · obtain ⟨A, n, rs, kvs, word, lever, above, sub, rfl, W, hl, ha, hpl, k⟩ := h
    have nd := sc_Walk_put_row.nd
    refine ⟨_, (pss_cons (ps_set (i := 4) nd rfl (Or.inl rfl) (pe_callB call_len_seq (by rfl) T.n_len (by decide +kernel) (pa_cons (pe_fld (pv 0) rfl) pa_nil)))
  (pss_cons (ps_set (i := 5) nd rfl (Or.inl rfl) pe_int)
  (pss_cut (ps_if (pt_cmpR op_ge (pv 3) pe_int (nomark _)) (pss_cons (ps_set (i := 5) nd rfl (Or.inl rfl) (pe_callB call_len_seq (by rfl) T.n_len (by decide +kernel) (pa_cons (pe_ix ix_list (pe_fld (pv 0) rfl) (pv 3) (fun _ _ => rfl)) pa_nil)))
  (pss_one (ps_expr (pe_bm PySem.F.plainAttrs_list PySem.F.slot_list_append PySem.F.type_list_append mt_append (pe_ix ix_list (pe_fld (pv 0) rfl) (pv 3) (fun _ _ => rfl)) (pa_cons (pv 4) pa_nil))))) pss_nil)
  (pss_cons (ps_expr (pe_bm PySem.F.plainAttrs_list PySem.F.slot_list_append PySem.F.type_list_append mt_append (pe_fld (pv 0) rfl) (pa_cons (pv 1) pa_nil)))
  (pss_cons (ps_expr (pe_bm PySem.F.plainAttrs_list PySem.F.slot_list_append PySem.F.type_list_append mt_append (pe_fld (pv 0) rfl) (pa_cons (pv 2) pa_nil)))
  (pss_cons (ps_expr (pe_bm PySem.F.plainAttrs_list PySem.F.slot_list_append PySem.F.type_list_append mt_append (pe_fld (pv 0) rfl) (pa_cons (pe_lst pa_nil) pa_nil)))
  (pss_cons (ps_expr (pe_bm PySem.F.plainAttrs_list PySem.F.slot_list_append PySem.F.type_list_append mt_append (pe_fld (pv 0) rfl) (pa_cons (pv 3) pa_nil)))
  (pss_cons (ps_expr (pe_bm PySem.F.plainAttrs_list PySem.F.slot_list_append PySem.F.type_list_append mt_append (pe_fld (pv 0) rfl) (pa_cons (pv 5) pa_nil)))
  (pss_one (ps_ret (pv 4))))))))))), ?_⟩
    refine ⟨_, rfl, A.a, C, A.dx, _, _, rfl, W.ha, Z.cl, Z.nw, wf_words A n, A.aw, _, rfl, .inl (SqL.of W.hw), ?_⟩
    rw [List.length_map]
    -- behind the if: the rank, the parts' lists
    let up : Row τ → Row τ := fun r => { r with parts := r.parts ++ [rs.length] }
    let rs1 : List (Row τ) := if 0 ≤ above then rs.modify above.toNat up else rs
    let rk : Nat := if 0 ≤ above then ((rs[above.toNat]?.map fun (r : Row τ) => r.parts.length).getD 0 : Nat) else 0
    have e1 : rs1.length = rs.length := by
      show (if 0 ≤ above then _ else rs).length = _
      split <;> simp
    refine ⟨fun σ G => σ = [some (.ref A.a), some (.str word), some (.int lever), some (.int above), some (.int rs.length), some (.int rk)] ∧ WkAt C G A n rs1 kvs ∧ (∀ b o, H b = some o → b ∉ A.all → G b = some o) ∧ ∀ b, G b = none → H b = none, ?_, ?_⟩
    · refine ⟨_, rfl, above, 0, rfl, rfl, _, rfl, ?_⟩
      refine ite2 (fun hc => ?_) (fun hc => ?_)
      · have h0 : 0 ≤ above := of_decide_eq_true hc
        obtain ⟨p, r, hp, hr⟩ := get_ps W.len (i := above.toNat) (by omega)
        have hat : atI (A.ps.map V.ref) above = some (.ref p) := by
          have := atI_map (g := V.ref) hp
          rwa [Int.toNat_of_nonneg h0] at this
        have hq := W.hq _ p r hp hr
        have pm := List.mem_of_getElem? hp
        refine ⟨_, rfl, A.a, C, A.dx, _, _, rfl, W.ha, Z.cl, Z.np, wf_parts A n, _, rfl, A.ap, _, above, .ref p, rfl, rfl, SqL.of W.hp, hat, p, _, rfl, .inl (SqL.of hq), ?_⟩
        refine ⟨_, rfl, A.a, C, A.dx, _, _, rfl, W.ha, Z.cl, Z.np, wf_parts A n, _, rfl, A.ap, _, above, .ref p, rfl, rfl, SqL.of W.hp, hat, .inl ⟨rfl, _, SqL.of hq⟩, _, rfl, p, _, _, rfl, rfl, hq, ?_, ?_⟩
        · rw [List.length_map]
          exact small1000 (hpl r (List.mem_of_getElem? hr))
        · have n1 : A.a ≠ p := ne_of W.ha hq (by intro z; cases z)
          have n2 : A.dx ≠ p := ne_of W.hdx hq (by intro z; cases z)
          have n3 : A.ad ≠ p := ne_of W.hd hq (by intro z; cases z)
          have nn : ∀ {b : Addr}, b ∉ A.ps → b ≠ p := fun h e => h (e ▸ pm)
          have er : rs1 = rs.modify above.toNat up := if_pos h0
          refine ⟨?_, ⟨W.ne, (upd_ne n1).trans W.ha, (upd_ne n2).trans W.hdx, ?_, ?_, (upd_ne (nn W.ne.qp)).trans W.hp, ?_, ?_, (upd_ne n3).trans W.hd, W.len.trans e1.symm, fun i p' r' h1 h2 => ?_⟩, fun b o h1 h2 => ?_, fun b h => ?_⟩
          · have e2 : rk = r.parts.length := by
              show (if 0 ≤ above then _ else 0) = _
              rw [if_pos h0, hr]
              rfl
            rw [List.length_map, e2]
            rfl
          · rw [upd_ne (nn W.ne.qw), W.hw, er, map_modify (u := up) fun _ => rfl]
          · rw [upd_ne (nn W.ne.ql), W.hl, er, map_modify (u := up) fun _ => rfl]
          · rw [upd_ne (nn W.ne.qb), W.hb, er, map_modify (u := up) fun _ => rfl]
          · rw [upd_ne (nn W.ne.qr), W.hr, er, map_modify (u := up) fun _ => rfl]
          · rw [er, get_modify] at h2
            by_cases hi : i = above.toNat
            · subst hi
              rw [hp] at h1
              cases h1
              rw [hr] at h2
              simp at h2
              subst h2
              rw [upd_same]
              simp [up]
            · rw [upd_ne (ps_ne W.ne.nd h1 hp hi)]
              cases h3 : rs[i]? with
              | none => rw [h3] at h2; simp at h2
              | some r3 =>
                rw [h3] at h2
                simp [hi] at h2
                subst h2
                exact W.hq i p' r3 h1 h3
          · rw [upd_ne fun e => h2 (List.mem_append_right _ (by rw [e]; exact pm))]
            exact h1
          · by_cases e : b = p
            · subst e
              rw [upd_same] at h
              cases h
            · rwa [upd_ne e] at h
      · have h0 : ¬ 0 ≤ above := fun h => hc (decide_eq_true h)
        have er : rs1 = rs := if_neg h0
        have ek : rk = 0 := if_neg h0
        refine ⟨by rw [ek]; rfl, by rw [er]; exact W, fun _ _ h _ => h, fun _ h => h⟩
    · rintro σ G ⟨rfl, W1, fr, fn⟩
      have s1 : ∀ {g : Row τ → V}, (rs1.map g).length < sizeLine := fun {g} => by
        rw [List.length_map, e1]
        exact small1000 hl
      have x1 : A.a ≠ A.aw := ne_of W1.ha W1.hw (by intro z; cases z)
      have x2 : A.a ≠ A.al := ne_of W1.ha W1.hl (by intro z; cases z)
      have x3 : A.a ≠ A.ap := ne_of W1.ha W1.hp (by intro z; cases z)
      have x4 : A.a ≠ A.ab := ne_of W1.ha W1.hb (by intro z; cases z)
      have x5 : A.a ≠ A.ar := ne_of W1.ha W1.hr (by intro z; cases z)
      have y1 : A.dx ≠ A.aw := ne_of W1.hdx W1.hw (by intro z; cases z)
      have y2 : A.dx ≠ A.al := ne_of W1.hdx W1.hl (by intro z; cases z)
      have y3 : A.dx ≠ A.ap := ne_of W1.hdx W1.hp (by intro z; cases z)
      have y4 : A.dx ≠ A.ab := ne_of W1.hdx W1.hb (by intro z; cases z)
      have y5 : A.dx ≠ A.ar := ne_of W1.hdx W1.hr (by intro z; cases z)
      have z1 : A.ad ≠ A.aw := ne_of W1.hd W1.hw (by intro z; cases z)
      have z2 : A.ad ≠ A.al := ne_of W1.hd W1.hl (by intro z; cases z)
      have z3 : A.ad ≠ A.ap := ne_of W1.hd W1.hp (by intro z; cases z)
      have z4 : A.ad ≠ A.ab := ne_of W1.hd W1.hb (by intro z; cases z)
      have z5 : A.ad ≠ A.ar := ne_of W1.hd W1.hr (by intro z; cases z)
      have N := W1.ne
      have nq : ∀ {i p}, A.ps[i]? = some p → p ≠ A.aw ∧ p ≠ A.al ∧ p ≠ A.ap ∧ p ≠ A.ab ∧ p ≠ A.ar := fun {i p} h => by
        have m := List.mem_of_getElem? h
        exact ⟨fun e => N.qw (e ▸ m), fun e => N.ql (e ▸ m), fun e => N.qp (e ▸ m), fun e => N.qb (e ▸ m), fun e => N.qr (e ▸ m)⟩
      -- self.words.append(word)
      refine ⟨_, rfl, A.a, C, A.dx, _, _, rfl, W1.ha, Z.cl, Z.nw, wf_words A n, .inl ⟨rfl, _, SqL.of W1.hw⟩, _, rfl, A.aw, _, _, rfl, rfl, W1.hw, s1, ?_⟩
      obtain ⟨b1, c1, f1⟩ := a2 (G := G) (l := A.aw) (o := .lst (rs1.map (fun r => V.str r.word) ++ [.str word]))
      generalize upd G A.aw (.lst (rs1.map (fun r => V.str r.word) ++ [.str word])) = G1 at b1 c1 f1 ⊢
      -- self.levers.append(lever)
      have hl1 := c1 _ _ W1.hl N.wl.symm
      refine ⟨_, rfl, A.a, C, A.dx, _, _, rfl, c1 _ _ W1.ha x1, Z.cl, Z.nl, wf_levers A n, .inl ⟨rfl, _, SqL.of hl1⟩, _, rfl, A.al, _, _, rfl, rfl, hl1, s1, ?_⟩
      obtain ⟨b2, c2, f2⟩ := a2 (G := G1) (l := A.al) (o := .lst (rs1.map (fun r => V.int r.lever) ++ [.int lever]))
      generalize upd G1 A.al (.lst (rs1.map (fun r => V.int r.lever) ++ [.int lever])) = G2 at b2 c2 f2 ⊢
      -- self.parts.append([])
      have hp2 := c2 _ _ (c1 _ _ W1.hp N.wp.symm) N.lp.symm
      have ha2 := c2 _ _ (c1 _ _ W1.ha x1) x2
      refine ⟨_, rfl, A.a, C, A.dx, _, _, rfl, ha2, Z.cl, Z.np, wf_parts A n, .inl ⟨rfl, _, SqL.of hp2⟩, Nat.zero_le _, fun q nq0 => ?_⟩
      have qne : ∀ {b x}, G2 b = some x → b ≠ q := fun h => ne_of_none h nq0
      refine ⟨A.ap, _, _, rfl, rfl, (upd_ne (qne hp2)).trans hp2, ?_, ?_⟩
      · rw [List.length_map, W1.len, e1]
        exact small1000 hl
      obtain ⟨b3, c3, f3⟩ := a2 (G := upd G2 q (.lst [])) (l := A.ap) (o := .lst (A.ps.map V.ref ++ [.ref q]))
      generalize upd (upd G2 q (.lst [])) A.ap (.lst (A.ps.map V.ref ++ [.ref q])) = G3 at b3 c3 f3 ⊢
      have c3' : ∀ b x, G2 b = some x → b ≠ A.ap → G3 b = some x := fun b x h e => c3 b x ((upd_ne (qne h)).trans h) e
      have q3 : G3 q = some (.lst []) := c3 _ _ upd_same fun e => qne hp2 e.symm
      -- self.above.append(above)
      have hb3 := c3' _ _ (c2 _ _ (c1 _ _ W1.hb N.wb.symm) N.lb.symm) N.pb.symm
      have ha3 := c3' _ _ ha2 x3
      refine ⟨_, rfl, A.a, C, A.dx, _, _, rfl, ha3, Z.cl, Z.nb, wf_above A n, .inl ⟨rfl, _, SqL.of hb3⟩, _, rfl, A.ab, _, _, rfl, rfl, hb3, s1, ?_⟩
      obtain ⟨b4, c4, f4⟩ := a2 (G := G3) (l := A.ab) (o := .lst (rs1.map (fun r => V.int r.above) ++ [.int above]))
      generalize upd G3 A.ab (.lst (rs1.map (fun r => V.int r.above) ++ [.int above])) = G4 at b4 c4 f4 ⊢
      -- self.ranks.append(rank)
      have hr4 := c4 _ _ (c3' _ _ (c2 _ _ (c1 _ _ W1.hr N.wr.symm) N.lr.symm) N.pr.symm) N.br.symm
      have ha4 := c4 _ _ ha3 x4
      refine ⟨_, rfl, A.a, C, A.dx, _, _, rfl, ha4, Z.cl, Z.nr, wf_ranks A n, .inl ⟨rfl, _, SqL.of hr4⟩, _, rfl, A.ar, _, _, rfl, rfl, hr4, s1, ?_⟩
      obtain ⟨b5, c5, f5⟩ := a2 (G := G4) (l := A.ar) (o := .lst (rs1.map (fun r => V.int r.rank) ++ [.int rk]))
      generalize upd G4 A.ar (.lst (rs1.map (fun r => V.int r.rank) ++ [.int rk])) = G5 at b5 c5 f5 ⊢
      -- what stands
      have keep : ∀ {b x}, G b = some x → b ≠ A.aw → b ≠ A.al → b ≠ A.ap → b ≠ A.ab → b ≠ A.ar → G5 b = some x := fun h i1 i2 i3 i4 i5 => c5 _ _ (c4 _ _ (c3' _ _ (c2 _ _ (c1 _ _ h i1) i2) i3) i4) i5
      have hn : H q = none := fn _ (f1 _ (f2 _ nq0))
      have em : putRow rs word lever above sub = rs1 ++ [{ word := word, lever := lever, parts := [], above := above, rank := (rk : Nat), sub := sub }] := rfl
      have qps : q ∉ A.ps := fun m => by
        obtain ⟨i, hi, e⟩ := List.mem_iff_getElem.mp m
        have h1 : A.ps[i]? = some q := by rw [List.getElem?_eq_getElem hi, e]
        obtain ⟨p', r', hp', hr'⟩ := get_ps W1.len (i := i) (by rw [← W1.len]; exact hi)
        rw [h1] at hp'
        cases hp'
        have n5 := nq h1
        exact absurd (c2 _ _ (c1 _ _ (W1.hq i q r' h1 hr') n5.1) n5.2.1) (by rw [nq0]; exact fun z => nomatch z)
      refine ⟨_, rfl, ?_⟩
      refine k G5 q hn ⟨?_, keep W1.ha x1 x2 x3 x4 x5, keep W1.hdx y1 y2 y3 y4 y5, ?_, ?_, ?_, ?_, ?_, keep W1.hd z1 z2 z3 z4 z5, ?_, fun i p' r' h1 h2 => ?_⟩ fun b o h1 h2 => ?_
      · have nw : ∀ {b x}, G2 b = some x → b ∉ A.ps → b ∉ A.ps ++ [q] := fun h1 h2 h3 => by
          rcases List.mem_append.mp h3 with h3 | h3
          · exact h2 h3
          · exact qne h1 (List.mem_singleton.mp h3)
        have e2 := c2 _ _ (c1 _ _ W1.hb N.wb.symm) N.lb.symm
        have e3 := c2 _ _ (c1 _ _ W1.hr N.wr.symm) N.lr.symm
        have e4 := c2 _ _ b1 N.wl
        exact ⟨N.wl, N.wp, N.wb, N.wr, N.lp, N.lb, N.lr, N.pb, N.pr, N.br, nw e4 N.qw, nw b2 N.ql, nw hp2 N.qp, nw e2 N.qb, nw e3 N.qr, by
          rw [List.nodup_append]
          exact ⟨N.nd, by simp, fun a ha b hb e => qps (by rw [List.mem_singleton.mp hb] at e; exact e ▸ ha)⟩⟩
      · have e4 := c5 _ _ (c4 _ _ (c3' _ _ (c2 _ _ b1 N.wl) N.wp) N.wb) N.wr
        rw [em, List.map_append]
        exact e4
      · have e4 := c5 _ _ (c4 _ _ (c3' _ _ b2 N.lp) N.lb) N.lr
        rw [em, List.map_append]
        exact e4
      · have e4 := c5 _ _ (c4 _ _ b3 N.pb) N.pr
        show G5 A.ap = some (.lst ((A.ps ++ [q]).map V.ref))
        rw [List.map_append]
        exact e4
      · have e4 := c5 _ _ b4 N.br
        rw [em, List.map_append]
        exact e4
      · rw [em, List.map_append]
        exact b5
      · show (A.ps ++ [q]).length = _
        rw [em, List.length_append, List.length_append, W1.len]
        rfl
      · show G5 p' = _
        have h1 : (A.ps ++ [q])[i]? = some p' := h1
        rw [em] at h2
        by_cases hi : i < A.ps.length
        · rw [List.getElem?_append_left hi] at h1
          rw [List.getElem?_append_left (by rw [← W1.len]; exact hi)] at h2
          obtain ⟨i1, i2, i3, i4, i5⟩ := nq h1
          exact keep (W1.hq i p' r' h1 h2) i1 i2 i3 i4 i5
        · rw [List.getElem?_append_right (by omega)] at h1
          rw [List.getElem?_append_right (by rw [← W1.len]; omega), ← W1.len] at h2
          have hz : i - A.ps.length = 0 := by
            cases hz : i - A.ps.length with
            | zero => rfl
            | succ m => rw [hz] at h1; simp at h1
          rw [hz] at h1 h2
          simp at h1 h2
          subst h1
          subst h2
          have n4 : q ≠ A.ab := fun e => qne (c2 _ _ (c1 _ _ W1.hb N.wb.symm) N.lb.symm) e.symm
          have n5 : q ≠ A.ar := fun e => qne (c2 _ _ (c1 _ _ W1.hr N.wr.symm) N.lr.symm) e.symm
          exact c5 _ _ (c4 _ _ q3 n4) n5
      · have m : ∀ c, c ∈ [A.a, A.dx, A.aw, A.al, A.ap, A.ab, A.ar, A.ad] → b ≠ c := fun c hc e => h2 (e ▸ List.mem_append_left _ hc)
        exact keep (fr b o h1 h2) (m _ (by simp)) (m _ (by simp)) (m _ (by simp)) (m _ (by simp)) (m _ (by simp))
end
end Dl

set_option Elab.async false
set_option maxRecDepth 100000
set_option maxHeartbeats 4000000
set_option linter.all false
namespace Dl
open PySem L2 Evl Dt
section
variable {P : Program} {w : World} {K : PySem.W.Frag} {mg : Str → Option Value} {base : Heap} {f C : Addr} {fd : FuncData} {τ : Type}
/-- the object at a is another one -/
theorem wk_many {H : Hp} {A : WAd} {n m : Int} {rs : List (Row τ)} {kvs : List (Key × V)} (W : WkAt C H A n rs kvs) : WkAt C (upd H A.a (.ins C A.dx (wf A m))) A m rs kvs := by
  have x1 : A.aw ≠ A.a := (ne_of W.ha W.hw (by intro z; cases z)).symm
  have x2 : A.al ≠ A.a := (ne_of W.ha W.hl (by intro z; cases z)).symm
  have x3 : A.ap ≠ A.a := (ne_of W.ha W.hp (by intro z; cases z)).symm
  have x4 : A.ab ≠ A.a := (ne_of W.ha W.hb (by intro z; cases z)).symm
  have x5 : A.ar ≠ A.a := (ne_of W.ha W.hr (by intro z; cases z)).symm
  have x6 : A.ad ≠ A.a := (ne_of W.ha W.hd (by intro z; cases z)).symm
  have x7 : A.dx ≠ A.a := (ne_of W.ha W.hdx (by intro z; cases z)).symm
  exact ⟨W.ne, upd_same, (upd_ne x7).trans W.hdx, (upd_ne x1).trans W.hw, (upd_ne x2).trans W.hl, (upd_ne x3).trans W.hp, (upd_ne x4).trans W.hb, (upd_ne x5).trans W.hr, (upd_ne x6).trans W.hd, W.len,
    fun i p r h1 h2 => (upd_ne (ne_of W.ha (W.hq i p r h1 h2) (by intro z; cases z)).symm).trans (W.hq i p r h1 h2)⟩
theorem wk_dict {H : Hp} {A : WAd} {n : Int} {rs : List (Row τ)} {kvs kvs' : List (Key × V)} (W : WkAt C H A n rs kvs) : WkAt C (upd H A.ad (.dK kvs')) A n rs kvs' := by
  have x1 : A.aw ≠ A.ad := (ne_of W.hd W.hw (by intro z; cases z)).symm
  have x2 : A.al ≠ A.ad := (ne_of W.hd W.hl (by intro z; cases z)).symm
  have x3 : A.ap ≠ A.ad := (ne_of W.hd W.hp (by intro z; cases z)).symm
  have x4 : A.ab ≠ A.ad := (ne_of W.hd W.hb (by intro z; cases z)).symm
  have x5 : A.ar ≠ A.ad := (ne_of W.hd W.hr (by intro z; cases z)).symm
  have x6 : A.a ≠ A.ad := (ne_of W.hd W.ha (by intro z; cases z)).symm
  have x7 : A.dx ≠ A.ad := (ne_of W.hd W.hdx (by intro z; cases z)).symm
  exact ⟨W.ne, (upd_ne x6).trans W.ha, (upd_ne x7).trans W.hdx, (upd_ne x1).trans W.hw, (upd_ne x2).trans W.hl, (upd_ne x3).trans W.hp, (upd_ne x4).trans W.hb, (upd_ne x5).trans W.hr, upd_same, W.len,
    fun i p r h1 h2 => (upd_ne (ne_of W.hd (W.hq i p r h1 h2) (by intro z; cases z)).symm).trans (W.hq i p r h1 h2)⟩
def spPutLever (τ : Type) (C : Addr) : Sp := fun vs H Q _ => ∃ (A : WAd) (n : Int) (rs : List (Row τ)) (kvs : List (Key × V)) (lever above : Int) (sub : τ),
  vs = [.ref A.a, .int lever, .int above] ∧ WkAt C H A n rs kvs ∧ rs.length ≤ 1000 ∧ above < rs.length ∧ (∀ r ∈ rs, r.parts.length ≤ 1000) ∧ kvs.length ≤ 1000 ∧
  ∀ (H' : Hp) (q : Addr), H q = none → WkAt C H' { A with ps := A.ps ++ [q] } (n + 1) (putRow rs "" lever above sub) (putK kvs (.inl lever) (.int rs.length)) → (∀ b o, H b = some o → b ∉ A.all → H' b = some o) → Q .non H'
abbrev s_Walk_put_lever : Stmt := inClass (topS 14) 2
abbrev N_Walk_put_lever : List Str := ["self", "lever", "above"]
theorem sc_Walk_put_lever : FnScope N_Walk_put_lever ["self", "lever", "above"] (defScope s_Walk_put_lever) := ⟨rfl, rfl, rfl, by decide +kernel, rfl, by decide +kernel, by decide +kernel⟩

theorem ok_put_lever (F : Fun K "put_lever" "Walk.put_lever" s_Walk_put_lever f fd) (Z : WT K C) (T : Nm mg) (h_m_put_row : HasM P w K mg base C 1 "put_row" ["self", "word", "lever", "above"] (spPutRow τ C)) :
    FnOk P w K mg base CX0 2 f fd ["self", "lever", "above"] (spPutLever τ C) := by
  refine F.ok sc_Walk_put_lever (fun vs H Q E h => ?_) (fun cdv A' outer s H vs Q E hr h => ?_)
  · obtain ⟨A, n, rs, kvs, lever, above, sub, rfl, _⟩ := h
    rfl
  · obtain ⟨A, n, rs, kvs, lever, above, sub, rfl, W, hl, ha, hpl, hk, k⟩ := h
    have nd := sc_Walk_put_lever.nd
    have hu := hu_of hr
    refine ⟨_, (pss_cons (ps_fldaug (pv 0) pe_int in_add)
  (pss_one (ps_dput hu (pe_fld (pv 0) rfl) (pv 1) (pe_hasm h_m_put_row (hr.mono (by first | decide | omega)) (pv 0) (pa_cons pe_str (pa_cons (pv 1) (pa_cons (pv 2) pa_nil)))) rfl))), ?_⟩
    refine ⟨_, rfl, A.a, C, A.dx, _, _, rfl, W.ha, Z.cl, Z.nm, wf_many A n, n, 1, rfl, rfl, A.dx, _, W.ha, (by show 7 < 1000; decide), ?_⟩
    rw [wf_put]
    have W1 := wk_many (m := n + 1) W
    refine ⟨_, rfl, A.a, A.dx, _, rfl, W1.ha, wf_row _ _, _, rfl, _, rfl, A, n + 1, rs, kvs, "", lever, above, sub, rfl, W1, hl, ha, hpl, fun H' q hq W2 fr => ?_⟩
    refine ⟨_, rfl, A.a, C, A.dx, _, _, rfl, W2.ha, Z.cl, Z.nd, wf_rows _ _, _, rfl, A.ad, _, rfl, DPut.k (k := .inl lever) W2.hd (small1000 hk), ?_⟩
    refine k _ q ?_ (wk_dict W2) fun b o h1 h2 => ?_
    · have e : q ≠ A.a := fun e => by rw [e, upd_same] at hq; cases hq
      rwa [upd_ne e] at hq
    · have n1 : b ≠ A.ad := fun e => h2 (e ▸ by simp [WAd.all])
      have n2 : b ≠ A.a := fun e => h2 (e ▸ by simp [WAd.all])
      rw [upd_ne n1]
      exact fr b o (by rw [upd_ne n2]; exact h1) h2
def spPutKnot (τ : Type) (C : Addr) : Sp := fun vs H Q _ => ∃ (A : WAd) (n : Int) (rs : List (Row τ)) (kvs : List (Key × V)) (word : Str) (above : Int) (sub : τ),
  vs = [.ref A.a, .str word, .int above] ∧ WkAt C H A n rs kvs ∧ rs.length ≤ 1000 ∧ above < rs.length ∧ (∀ r ∈ rs, r.parts.length ≤ 1000) ∧
  ∀ (H' : Hp) (q : Addr), H q = none → WkAt C H' { A with ps := A.ps ++ [q] } n (putRow rs word (-1) above sub) kvs → (∀ b o, H b = some o → b ∉ A.all → H' b = some o) → Q (.int rs.length) H'
abbrev s_Walk_put_knot : Stmt := inClass (topS 14) 1
abbrev N_Walk_put_knot : List Str := ["self", "word", "above"]
theorem sc_Walk_put_knot : FnScope N_Walk_put_knot ["self", "word", "above"] (defScope s_Walk_put_knot) := ⟨rfl, rfl, rfl, by decide +kernel, rfl, by decide +kernel, by decide +kernel⟩

theorem ok_put_knot (F : Fun K "put_knot" "Walk.put_knot" s_Walk_put_knot f fd) (Z : WT K C) (T : Nm mg) (h_m_put_row : HasM P w K mg base C 1 "put_row" ["self", "word", "lever", "above"] (spPutRow τ C)) :
    FnOk P w K mg base CX0 2 f fd ["self", "word", "above"] (spPutKnot τ C) := by
  refine F.ok sc_Walk_put_knot (fun vs H Q E h => ?_) (fun cdv A' outer s H vs Q E hr h => ?_)
  · obtain ⟨A, n, rs, kvs, word, above, sub, rfl, _⟩ := h
    rfl
  · obtain ⟨A, n, rs, kvs, word, above, sub, rfl, W, hl, ha, hpl, k⟩ := h
    have nd := sc_Walk_put_knot.nd
    refine ⟨_, (pss_one (ps_ret (pe_hasm h_m_put_row (hr.mono (by first | decide | omega)) (pv 0) (pa_cons (pv 1) (pa_cons (pe_un un_neg pe_int) (pa_cons (pv 2) pa_nil)))))), ?_⟩
    exact ⟨_, rfl, A.a, A.dx, _, rfl, W.ha, wf_row _ _, _, rfl, 1, rfl, _, rfl, A, n, rs, kvs, word, -1, above, sub, rfl, W, hl, ha, hpl, fun H' q hq W2 fr => k H' q hq W2 fr⟩
end
end Dl

set_option Elab.async false
set_option maxRecDepth 100000
set_option maxHeartbeats 4000000
set_option linter.all false
/-! trees, and the rows that are read off them -/
namespace Dl
open PySem L2 Evl Dt
inductive T where
  | lev (z : Nat)
  | knot (w : Bool) (ps : List T)
def wd (w : Bool) : Str := if w then "all" else "any"
mutual
def T.d : T → PyData
  | .lev z => .int (z : Int)
  | .knot w ps => .tuple [.str (wd w), .tuple (T.ds ps)]
def T.ds : List T → List PyData
  | [] => []
  | t :: r => t.d :: T.ds r
end
theorem T.ds_map : ∀ ps : List T, T.ds ps = ps.map T.d
  | [] => by rw [T.ds]; rfl
  | t :: r => by rw [T.ds, T.ds_map r]; rfl
mutual
def T.size : T → Nat
  | .lev _ => 1
  | .knot _ ps => 1 + T.sizes ps
def T.sizes : List T → Nat
  | [] => 0
  | t :: r => t.size + T.sizes r
end
mutual
def T.levs : T → List Nat
  | .lev z => [z]
  | .knot _ ps => T.levss ps
def T.levss : List T → List Nat
  | [] => []
  | t :: r => t.levs ++ T.levss r
end
def T.hasWord (w : Bool) : T → Bool
  | .lev _ => false
  | .knot v _ => v == w
mutual
/-- the form: two parts or more, none with the knot's own word -/
def T.form : T → Bool
  | .lev _ => true
  | .knot w ps => decide (2 ≤ ps.length) && decide (ps.length ≤ 200) && T.forms w ps
def T.forms (w : Bool) : List T → Bool
  | [] => true
  | t :: r => t.form && !t.hasWord w && T.forms w r
end
theorem forms_mem {w : Bool} : ∀ {ps : List T}, T.forms w ps = true → ∀ t ∈ ps, t.form = true ∧ t.hasWord w = false
  | [], _, _, h => nomatch h
  | a :: r, h, t, m => by
    rw [T.forms, Bool.and_eq_true, Bool.and_eq_true] at h
    rcases List.mem_cons.mp m with e | m
    · subst e
      exact ⟨h.1.1, by simpa using h.1.2⟩
    · exact forms_mem h.2 t m
theorem size_pos (t : T) : 1 ≤ t.size := by
  cases t with
  | lev z => rw [T.size]; exact Nat.le_refl _
  | knot w ps => rw [T.size]; omega
def levOf : T → Option Nat
  | .lev z => some z
  | .knot _ _ => none
/-- what stands at a row, from what it stands for -/
def RowOk (r : Row T) : Prop := match r.sub with
  | .lev z => r.word = "" ∧ r.lever = (z : Int) ∧ r.parts = []
  | .knot w _ => r.word = wd w ∧ r.lever = -1
def pend (st : List (T × Int)) (i : Nat) : List T := (st.reverse.filter fun x => decide (x.2 = (i : Int))).map (·.1)
def subs (rs : List (Row T)) (c : Nat) : Option T := rs[c]?.map (·.sub)
def szs (st : List (T × Int)) : Nat := (st.map fun x => x.1.size).sum
/-- while the rows are read: st is still to come, its last item first -/
structure Rdg (t0 : T) (rs : List (Row T)) (n : Int) (kvs : List (Key × V)) (st : List (T × Int)) : Prop where
  ok : ∀ (i : Nat) (r : Row T), rs[i]? = some r → RowOk r
  rform : ∀ (i : Nat) (r : Row T), rs[i]? = some r → r.sub.form = true
  kids : ∀ (i : Nat) (r : Row T) (w : Bool) (ps : List T), rs[i]? = some r → r.sub = .knot w ps →
    (∀ (j c : Nat), r.parts[j]? = some c → i < c ∧ c < rs.length ∧ subs rs c = ps[j]? ∧ ∀ rc, rs[c]? = some rc → rc.above = i) ∧ r.parts.length ≤ ps.length ∧ pend st i = ps.drop r.parts.length ∧ r.parts.Pairwise (· < ·)
  up : ∀ (i : Nat) (r : Row T), rs[i]? = some r → (i = 0 ∧ r.above = -1) ∨ ∃ p rp, r.above = ((p : Nat) : Int) ∧ p < i ∧ rs[p]? = some rp ∧ i ∈ rp.parts
  above : ∀ x ∈ st, (x.2 = -1 ∧ rs = [] ∧ st = [(t0, -1)]) ∨ ∃ (p : Nat) (rp : Row T) (w : Bool) (ps : List T), x.2 = (p : Int) ∧ rs[p]? = some rp ∧ rp.sub = .knot w ps ∧ x.1.hasWord w = false
  form : ∀ x ∈ st, x.1.form = true
  root : ∀ r : Row T, rs[0]? = some r → r.sub = t0
  levs : (rs.filterMap fun r => levOf r.sub) ++ (st.reverse.flatMap fun x => x.1.levs) = t0.levs
  size : rs.length + szs st = t0.size
  many : n = ((rs.filterMap fun r => levOf r.sub).length : Nat)
  dict : ∀ (i : Nat) (r : Row T) (z : Nat), rs[i]? = some r → r.sub = .lev z → valV kvs (.inl (z : Int)) = some (.int ((i : Nat) : Int))
  dlen : kvs.length ≤ rs.length
  big : ∀ r ∈ rs, r.parts.length ≤ 200
theorem Rdg.start {t0 : T} (h : t0.form = true) : Rdg t0 [] 0 [] [(t0, -1)] where
  ok := fun i r h => by simp at h
  rform := fun i r h => by simp at h
  kids := fun i r w ps h => by simp at h
  up := fun i r h => by simp at h
  above := fun x hx => by
    rw [List.mem_singleton.mp hx]
    exact .inl ⟨rfl, rfl, rfl⟩
  form := fun x hx => by rw [List.mem_singleton.mp hx]; exact h
  root := fun r h => by simp at h
  levs := by simp
  size := by simp [szs]
  many := by simp
  dict := fun i r z h => by simp at h
  dlen := Nat.le_refl _
  big := fun r h => nomatch h
def newRow (rs : List (Row T)) (word : Str) (lever above : Int) (sub : T) : Row T :=
  { word := word, lever := lever, parts := [], above := above, rank := (if 0 ≤ above then ((rs[above.toNat]?.map fun (r : Row T) => r.parts.length).getD 0 : Nat) else 0 : Nat), sub := sub }
theorem get_put {rs : List (Row T)} {word : Str} {lever above : Int} {sub : T} (i : Nat) : (putRow rs word lever above sub)[i]? =
    if i < rs.length then (rs[i]?).map (fun r => if above = (i : Int) then { r with parts := r.parts ++ [rs.length] } else r) else if i = rs.length then some (newRow rs word lever above sub) else none := by
  unfold putRow
  by_cases h0 : 0 ≤ above
  · simp only [if_pos h0]
    have hl : (rs.modify above.toNat (fun r => { r with parts := r.parts ++ [rs.length] })).length = rs.length := by simp
    by_cases hi : i < rs.length
    · rw [if_pos hi, List.getElem?_append_left (by rw [hl]; exact hi), get_modify]
      congr 1
      funext r
      by_cases e : above = (i : Int)
      · rw [if_pos e, if_pos (by omega)]
      · rw [if_neg e, if_neg (by omega)]
    · rw [if_neg hi, List.getElem?_append_right (by rw [hl]; omega), hl]
      by_cases e : i = rs.length
      · subst e
        rw [if_pos rfl, Nat.sub_self]
        unfold newRow
        simp [h0]
      · rw [if_neg e]
        exact List.getElem?_eq_none_iff.mpr (by simp; omega)
  · simp only [if_neg h0]
    by_cases hi : i < rs.length
    · rw [if_pos hi, List.getElem?_append_left hi]
      have : ∀ r : Row T, (if above = (i : Int) then { r with parts := r.parts ++ [rs.length] } else r) = r := fun r => if_neg (by omega)
      cases h : rs[i]? with
      | none => rfl
      | some r => rw [Option.map_some, this]
    · rw [if_neg hi, List.getElem?_append_right (by omega)]
      by_cases e : i = rs.length
      · subst e
        rw [if_pos rfl, Nat.sub_self]
        unfold newRow
        simp [h0]
      · rw [if_neg e]
        exact List.getElem?_eq_none_iff.mpr (by simp; omega)
theorem put_length {rs : List (Row T)} {word : Str} {lever above : Int} {sub : T} : (putRow rs word lever above sub).length = rs.length + 1 := by
  unfold putRow
  rw [List.length_append]
  split <;> simp
def wordOf : T → Str
  | .lev _ => ""
  | .knot w _ => wd w
def leverOf : T → Int
  | .lev z => z
  | .knot _ _ => -1
def kidsOf : T → List T
  | .lev _ => []
  | .knot _ ps => ps
theorem levss_flat : ∀ ps : List T, T.levss ps = ps.flatMap T.levs
  | [] => by rw [T.levss]; rfl
  | t :: r => by rw [T.levss, levss_flat r]; rfl
theorem sizes_sum : ∀ ps : List T, T.sizes ps = (ps.map T.size).sum
  | [] => by rw [T.sizes]; rfl
  | t :: r => by rw [T.sizes, sizes_sum r]; rfl
theorem levs_eq (t : T) : t.levs = (levOf t).toList ++ (kidsOf t).flatMap T.levs := by
  cases t with
  | lev z => rw [T.levs]; rfl
  | knot w ps => rw [T.levs, levss_flat]; rfl
theorem size_eq (t : T) : t.size = 1 + ((kidsOf t).map T.size).sum := by
  cases t with
  | lev z => rw [T.size]; rfl
  | knot w ps => rw [T.size, sizes_sum]; rfl
theorem pend_snoc (st : List (T × Int)) (t : T) (a : Int) (i : Nat) : pend (st ++ [(t, a)]) i = if a = (i : Int) then t :: pend st i else pend st i := by
  unfold pend
  rw [List.reverse_append, List.reverse_singleton, List.singleton_append, List.filter_cons]
  by_cases h : a = (i : Int)
  · rw [if_pos h, if_pos (decide_eq_true h)]
    rfl
  · rw [if_neg h, if_neg (by rw [decide_eq_false h]; exact Bool.false_ne_true)]
theorem pend_kids (st : List (T × Int)) (ps : List T) (n i : Nat) : pend (st ++ (ps.map fun p => (p, (n : Int))).reverse) i = (if n = i then ps else []) ++ pend st i := by
  unfold pend
  rw [List.reverse_append, List.reverse_reverse, List.filter_append, List.map_append]
  congr 1
  by_cases h : n = i
  · subst h
    rw [if_pos rfl, List.filter_eq_self.mpr, List.map_map]
    · exact List.map_id _
    · intro x hx
      obtain ⟨p, _, e⟩ := List.mem_map.mp hx
      subst e
      exact decide_eq_true rfl
  · rw [if_neg h, List.filter_eq_nil_iff.mpr]
    · rfl
    · intro x hx
      obtain ⟨p, _, e⟩ := List.mem_map.mp hx
      subst e
      simp
      omega
theorem fm_put {rs : List (Row T)} {word : Str} {lever above : Int} {sub : T} : (putRow rs word lever above sub).filterMap (fun r => levOf r.sub) = rs.filterMap (fun r => levOf r.sub) ++ (levOf sub).toList := by
  unfold putRow
  rw [List.filterMap_append]
  have e1 : ∀ (r : Row T), ([r]).filterMap (fun r => levOf r.sub) = (levOf r.sub).toList := fun r => by
    rw [List.filterMap_cons]
    cases levOf r.sub <;> rfl
  rw [e1]
  congr 1
  split
  · have em : ∀ (u : Row T → Row T), (∀ r, (u r).sub = r.sub) → (rs.modify above.toNat u).map (fun r => r.sub) = rs.map (fun r => r.sub) := fun u hu => map_modify (g := fun r : Row T => r.sub) hu _ _
    have e2 : ∀ l : List (Row T), l.filterMap (fun r => levOf r.sub) = (l.map (·.sub)).filterMap levOf := fun l => by rw [List.filterMap_map]; rfl
    rw [e2, e2]
    exact congrArg (List.filterMap levOf) (em _ fun _ => rfl)
  · rfl
theorem Rdg.step {t0 : T} {rs : List (Row T)} {n a : Int} {kvs : List (Key × V)} {st : List (T × Int)} {t : T} (h : Rdg t0 rs n kvs (st ++ [(t, a)])) (nd : t0.levs.Nodup) :
    Rdg t0 (putRow rs (wordOf t) (leverOf t) a t) (n + ((levOf t).toList.length : Nat)) (match t with | .lev z => putK kvs (.inl (z : Int)) (.int ((rs.length : Nat) : Int)) | .knot _ _ => kvs)
      (st ++ ((kidsOf t).map fun p => (p, ((rs.length : Nat) : Int))).reverse) := by
  have mt : (t, a) ∈ st ++ [(t, a)] := by simp
  have lt : ∀ {i : Nat} {r : Row T}, rs[i]? = some r → i < rs.length := fun e => (List.getElem?_eq_some_iff.mp e).1
  -- what is above the popped one
  have hab := h.above _ mt
  have hst : ∀ x ∈ st, ∃ (p : Nat) (rp : Row T) (w : Bool) (ps : List T), x.2 = (p : Int) ∧ rs[p]? = some rp ∧ rp.sub = .knot w ps ∧ x.1.hasWord w = false := fun x hx => by
    rcases h.above x (List.mem_append_left _ hx) with ⟨_, _, e⟩ | q
    · exfalso
      have := congrArg List.length e
      rw [List.length_append, List.length_singleton, List.length_singleton] at this
      have h0 : st = [] := List.eq_nil_of_length_eq_zero (by omega)
      rw [h0] at hx
      exact nomatch hx
    · exact q
  have tf : t.form = true := h.form _ mt
  have pst : pend st rs.length = [] := by
    unfold pend
    rw [List.filter_eq_nil_iff.mpr]
    · rfl
    · intro x hx
      obtain ⟨p, rp, _, _, e, e2, _⟩ := hst x (List.mem_reverse.mp hx)
      have := lt e2
      simp
      omega
  -- rows behind
  have old : ∀ {i : Nat} {r : Row T}, rs[i]? = some r → (putRow rs (wordOf t) (leverOf t) a t)[i]? = some (if a = (i : Int) then { r with parts := r.parts ++ [rs.length] } else r) := fun {i r} e => by
    rw [get_put, if_pos (lt e), e]
    rfl
  have new : (putRow rs (wordOf t) (leverOf t) a t)[rs.length]? = some (newRow rs (wordOf t) (leverOf t) a t) := by
    rw [get_put, if_neg (Nat.lt_irrefl _), if_pos rfl]
  have inv : ∀ {i : Nat} {r' : Row T}, (putRow rs (wordOf t) (leverOf t) a t)[i]? = some r' → (∃ r, rs[i]? = some r ∧ r' = if a = (i : Int) then { r with parts := r.parts ++ [rs.length] } else r) ∨ (i = rs.length ∧ r' = newRow rs (wordOf t) (leverOf t) a t) := fun {i r'} e => by
    rw [get_put] at e
    by_cases hi : i < rs.length
    · rw [if_pos hi] at e
      obtain ⟨r, e1, e2⟩ := Option.map_eq_some_iff.mp e
      exact .inl ⟨r, e1, e2.symm⟩
    · rw [if_neg hi] at e
      by_cases h2 : i = rs.length
      · rw [if_pos h2] at e
        exact .inr ⟨h2, (Option.some.inj e).symm⟩
      · rw [if_neg h2] at e
        cases e
  have subE : ∀ {i : Nat} {r : Row T}, (if a = (i : Int) then ({ r with parts := r.parts ++ [rs.length] } : Row T) else r).sub = r.sub := fun {i r} => by split <;> rfl
  have aboveE : ∀ {i : Nat} {r : Row T}, (if a = (i : Int) then ({ r with parts := r.parts ++ [rs.length] } : Row T) else r).above = r.above := fun {i r} => by split <;> rfl
  have subsE : ∀ {c : Nat}, c < rs.length → subs (putRow rs (wordOf t) (leverOf t) a t) c = subs rs c := fun {c} hc => by
    obtain ⟨r, e⟩ : ∃ r, rs[c]? = some r := ⟨rs[c], by simp [hc]⟩
    unfold subs
    rw [old e, e, Option.map_some, Option.map_some, subE]
  -- the row above is a knot: a lever's row stays
  have knotA : ∀ {i : Nat} {r : Row T}, rs[i]? = some r → a = (i : Int) → ∃ w ps, r.sub = .knot w ps ∧ t.hasWord w = false := fun {i r} e ea => by
    rcases hab with ⟨e1, e2, _⟩ | ⟨p, rp, w, ps, e1, e2, e3, e4⟩
    · rw [e2] at e; simp at e
    · have : p = i := by have e1 : a = (p : Int) := e1; omega
      subst this
      rw [e] at e2
      cases e2
      exact ⟨w, ps, e3, e4⟩
  -- the part that is placed
  have placed : ∀ {i : Nat} {r : Row T} {w : Bool} {ps : List T}, rs[i]? = some r → a = (i : Int) → r.sub = .knot w ps → ps[r.parts.length]? = some t ∧ pend st i = ps.drop (r.parts.length + 1) ∧ r.parts.length + 1 ≤ ps.length := fun {i r w ps} e ea es => by
    obtain ⟨_, _, k3, _⟩ := h.kids i r w ps e es
    rw [pend_snoc, if_pos ea] at k3
    have h1 : (ps.drop r.parts.length)[0]? = some t := by rw [← k3]; rfl
    have h2 : ps[r.parts.length]? = some t := by simpa using h1
    refine ⟨h2, ?_, (List.getElem?_eq_some_iff.mp h2).1⟩
    have h3 := congrArg List.tail k3
    simpa using h3
  have pendN : ∀ {i : Nat}, i < rs.length → pend (st ++ ((kidsOf t).map fun p => (p, ((rs.length : Nat) : Int))).reverse) i = pend st i := fun {i} hi => by
    rw [pend_kids, if_neg (by omega), List.nil_append]
  refine ⟨?ok, ?rform, ?kids, ?up, ?above, ?form, ?root, ?levs, ?size, ?many, ?dict, ?dlen, ?big⟩
  case ok =>
    intro i r' e
    rcases inv e with ⟨r, e1, rfl⟩ | ⟨_, rfl⟩
    · by_cases ea : a = (i : Int)
      · obtain ⟨w, ps, es, _⟩ := knotA e1 ea
        have h1 := h.ok i r e1
        rw [if_pos ea]
        unfold RowOk at h1 ⊢
        simp only [es] at h1 ⊢
        exact h1
      · rw [if_neg ea]
        exact h.ok i r e1
    · cases t with
      | lev z => exact ⟨rfl, rfl, rfl⟩
      | knot w ps => exact ⟨rfl, rfl⟩
  case rform =>
    intro i r' e
    rcases inv e with ⟨r, e1, rfl⟩ | ⟨_, rfl⟩
    · rw [subE]
      exact h.rform i r e1
    · exact tf
  case kids =>
    intro i r' w ps e es
    rcases inv e with ⟨r, e1, rfl⟩ | ⟨hi, rfl⟩
    · rw [subE] at es
      obtain ⟨k1, k2, k3, k4⟩ := h.kids i r w ps e1 es
      have k1' : ∀ (j c : Nat), r.parts[j]? = some c → i < c ∧ c < (putRow rs (wordOf t) (leverOf t) a t).length ∧ subs (putRow rs (wordOf t) (leverOf t) a t) c = ps[j]? ∧ ∀ rc, (putRow rs (wordOf t) (leverOf t) a t)[c]? = some rc → rc.above = i := fun j c hj => by
        obtain ⟨q1, q2, q3, q4⟩ := k1 j c hj
        refine ⟨q1, by rw [put_length]; omega, by rw [subsE q2]; exact q3, fun rc hrc => ?_⟩
        rcases inv hrc with ⟨r2, e2, rfl⟩ | ⟨e2, _⟩
        · rw [aboveE]
          exact q4 _ e2
        · omega
      by_cases ea : a = (i : Int)
      · rw [if_pos ea]
        obtain ⟨p1, p2, p3⟩ := placed e1 ea es
        refine ⟨fun j c hj => ?_, ?_, ?_, ?_⟩
        · by_cases hjl : j < r.parts.length
          · rw [List.getElem?_append_left hjl] at hj
            exact k1' j c hj
          · rw [List.getElem?_append_right (by omega)] at hj
            have hj0 : j = r.parts.length := by
              cases hz : j - r.parts.length with
              | zero => omega
              | succ m => rw [hz] at hj; simp at hj
            subst hj0
            simp at hj
            subst hj
            refine ⟨lt e1, by rw [put_length]; omega, ?_, fun rc hrc => ?_⟩
            · unfold subs
              rw [new, p1]
              rfl
            · rw [new] at hrc
              cases hrc
              exact ea
        · simp
          omega
        · rw [pendN (lt e1), p2]
          simp
        · rw [List.pairwise_append]
          refine ⟨k4, List.pairwise_singleton _ _, fun x hx y hy => ?_⟩
          obtain ⟨j, hj, ej⟩ := List.mem_iff_getElem.mp hx
          rw [List.mem_singleton.mp hy]
          exact (k1 j x (by rw [List.getElem?_eq_getElem hj, ej])).2.1
      · rw [if_neg ea]
        refine ⟨k1', k2, ?_, k4⟩
        rw [pendN (lt e1)]
        rwa [pend_snoc, if_neg ea] at k3
    · have es : t = .knot w ps := es
      subst es
      refine ⟨fun j c hj => by simp [newRow] at hj, Nat.zero_le _, ?_, List.Pairwise.nil⟩
      rw [hi, pend_kids, if_pos rfl, pst]
      simp [newRow, kidsOf]
  case up =>
    intro i r' e
    rcases inv e with ⟨r, e1, rfl⟩ | ⟨hi, rfl⟩
    · rw [aboveE]
      rcases h.up i r e1 with q | ⟨p, rp, q1, q2, q3, q4⟩
      · exact .inl q
      · refine .inr ⟨p, _, q1, q2, old q3, ?_⟩
        split
        · exact List.mem_append_left _ q4
        · exact q4
    · rcases hab with ⟨e1, e2, _⟩ | ⟨p, rp, w, ps, e1, e2, e3, e4⟩
      · exact .inl ⟨by rw [hi, e2]; rfl, e1⟩
      · refine .inr ⟨p, _, e1, by have := lt e2; omega, old e2, ?_⟩
        rw [if_pos e1, hi]
        simp
  case above =>
    intro x hx
    refine .inr ?_
    rcases List.mem_append.mp hx with hx | hx
    · obtain ⟨p, rp, w, ps, q1, q2, q3, q4⟩ := hst x hx
      exact ⟨p, _, w, ps, q1, old q2, by rw [subE]; exact q3, q4⟩
    · obtain ⟨y, hy, rfl⟩ := List.mem_map.mp (List.mem_reverse.mp hx)
      cases t with
      | lev z => exact nomatch hy
      | knot w ps =>
        rw [T.form, Bool.and_eq_true] at tf
        exact ⟨rs.length, _, w, ps, rfl, new, rfl, (forms_mem tf.2 y hy).2⟩
  case form =>
    intro x hx
    rcases List.mem_append.mp hx with hx | hx
    · exact h.form x (List.mem_append_left _ hx)
    · obtain ⟨y, hy, rfl⟩ := List.mem_map.mp (List.mem_reverse.mp hx)
      cases t with
      | lev z => exact nomatch hy
      | knot w ps =>
        rw [T.form, Bool.and_eq_true] at tf
        exact (forms_mem tf.2 y hy).1
  case root =>
    intro r' e
    rcases inv e with ⟨r, e1, rfl⟩ | ⟨hi, rfl⟩
    · rw [subE]
      exact h.root r e1
    · rcases hab with ⟨_, _, e3⟩ | ⟨p, rp, w, ps, e1, e2, e3, e4⟩
      · have h0 : st = [] := by have := congrArg List.length e3; simp at this; exact this
        rw [h0] at e3
        simp at e3
        exact e3.1
      · have := lt e2
        omega
  case levs =>
    have hl := h.levs
    rw [List.reverse_append, List.reverse_singleton, List.singleton_append, List.flatMap_cons, levs_eq t] at hl
    rw [fm_put, List.reverse_append, List.reverse_reverse, List.flatMap_append, List.flatMap_map]
    rw [← hl]
    simp only [List.append_assoc]
  case size =>
    have hs := h.size
    unfold szs at hs ⊢
    rw [List.map_append, List.sum_append] at hs ⊢
    rw [put_length, List.map_reverse, List.sum_reverse, List.map_map]
    have e1 := size_eq t
    have e2 : ((kidsOf t).map ((fun x : T × Int => x.1.size) ∘ fun p => (p, ((rs.length : Nat) : Int)))) = (kidsOf t).map T.size := rfl
    rw [e2]
    simp at hs
    omega
  case many =>
    rw [fm_put, List.length_append, h.many]
    omega
  case dict =>
    intro i r' z e es
    have hl := h.levs
    rw [List.reverse_append, List.reverse_singleton, List.singleton_append, List.flatMap_cons, levs_eq t] at hl
    rcases inv e with ⟨r, e1, rfl⟩ | ⟨hi, rfl⟩
    · rw [subE] at es
      have hv := h.dict i r z e1 es
      cases t with
      | knot w ps => exact hv
      | lev z' =>
        show valV (putK kvs (.inl (z' : Int)) _) (.inl (z : Int)) = _
        rw [valV_put, if_neg]
        · exact hv
        · intro e2
          have e3 : z = z' := by
            have := Sum.inl.inj e2
            omega
          subst e3
          have m : z ∈ rs.filterMap (fun r => levOf r.sub) := List.mem_filterMap.mpr ⟨r, List.mem_of_getElem? e1, by rw [es]; rfl⟩
          rw [← hl, List.nodup_append] at nd
          exact nd.2.2 z m z (by simp [levOf]) rfl
    · have es : t = .lev z := es
      subst es
      show valV (putK kvs (.inl (z : Int)) _) (.inl (z : Int)) = _
      rw [valV_put, if_pos rfl, hi]
  case dlen =>
    rw [put_length]
    have := h.dlen
    cases t with
    | knot w ps => show kvs.length ≤ _; omega
    | lev z =>
      show (putK kvs _ _).length ≤ _
      unfold putK
      split
      · rw [List.length_map]; omega
      · rw [List.length_append, List.length_singleton]; omega
  case big =>
    intro r' hr'
    obtain ⟨i, e⟩ := List.mem_iff_getElem?.mp hr'
    rcases inv e with ⟨r, e1, rfl⟩ | ⟨hi, rfl⟩
    · by_cases ea : a = (i : Int)
      · rw [if_pos ea]
        obtain ⟨w, ps, es, _⟩ := knotA e1 ea
        have h3 := (placed e1 ea es).2.2
        have h4 := h.rform i r e1
        rw [es, T.form, Bool.and_eq_true, Bool.and_eq_true, decide_eq_true_eq, decide_eq_true_eq] at h4
        simp
        omega
      · rw [if_neg ea]
        exact h.big r (List.mem_of_getElem? e1)
    · exact Nat.zero_le _
end Dl

set_option Elab.async false
set_option maxRecDepth 100000
set_option maxHeartbeats 2000000
set_option linter.all false
/-! comprehensions and loops over data -/
namespace Dt
open PySem L2 Evl
/-- a new list of data -/
def EvDL (K : PySem.W.Frag) (S : List Addr) (te : TE) (σ : L2.St) (H : Hp) (es : List PyData) : Prop := ∀ H1, Ex H H1 → ∀ Q : VK, (∀ p vs H2, H1 p = none → Ex H1 H2 → H2 p = some (.lst vs) → DpAll K (cut (p :: S) H2) vs es → Q (.ref p) H2) → te σ H1 Q
section
variable {K : PySem.W.Frag} {S : List Addr} {σ : L2.St} {H H' : Hp} {tl te : TE} {t : TT} {d e : PyData} {ds es : List PyData} {j : Nat} {vs : List Nat}
theorem EvDL.mono (e : Ex H H') (h : EvDL K S te σ H es) : EvDL K S te σ H' es := fun H1 a Q q => h H1 (e.trans a) Q q
theorem EvDL.ed (D : Dom S H) (h : EvDL K S te σ H es) : EvD K S te σ H (.list es) := fun H1 e Q q =>
  h H1 e _ fun p vs H2 hp e2 h2 f => q _ H2 e2 (.lst (sq_of (by rw [cut_out ((D.mono e).new hp), h2])) (dpa_mono (cut_sub fun b hb => List.mem_cons_of_mem _ hb) _ f))
/-- one more address that changes, new since H -/
theorem cut_new_le {p : Addr} (e : Ex H H') (hp : H p = none) : Ex (cut S H) (cut (p :: S) H') := fun b o q => by
  obtain ⟨h1, h2⟩ := cut_some q
  rw [cut_out (fun z => ?_)]
  · exact e b o h2
  · rcases List.mem_cons.mp z with z | z
    · rw [z, hp] at h2; cases h2
    · exact h1 z
theorem edl_lc0 (q : PyData → Bool) (g : PyData → PyData) {xs : List V} {iT : TI} {a : Addr} (hx : ∀ G, Ex H G → DpAll K (cut S G) xs ds) (D : Dom S H) (hz : ds.length ≤ 40000)
    (hw : ∀ x, wipe ((wipe σ vs).set j (some x)) vs = wipe σ vs)
    (ht : ∀ d v S' H1, Ex H H1 → Ex (cut S H) (cut S' H1) → Dom S' H1 → d ∈ ds → Dp K (cut S' H1) v d → EvT t ((wipe σ vs).set j (some v)) H1 (q d))
    (he : ∀ d v S' H1, Ex H H1 → Ex (cut S H) (cut S' H1) → Dom S' H1 → d ∈ ds → Dp K (cut S' H1) v d → q d = true → EvD K S' te ((wipe σ vs).set j (some v)) H1 (g d))
    (Dl : Addr) (hD : H Dl = none) (i : Nat) (x : V) (G : Hp) (hi : xs[i]? = some x)
    (p : Ex H G ∧ ∃ acc, G Dl = some (.lst acc) ∧ acc.length ≤ i ∧ DpAll K (cut (Dl :: S) G) acc (((ds.take i).filter q).map g)) :
    gName j x (wipe σ vs) G fun σ2 H2 => wipe σ2 vs = wipe σ vs ∧ t σ2 H2 fun b H3 => if b = true then te σ2 H3 fun y H4 => ∃ acc, H4 Dl = some (.lst acc) ∧ acc.length < sizeLine ∧
      (fun (i : Nat) (G : Hp) => Ex H G ∧ ∃ acc, G Dl = some (.lst acc) ∧ acc.length ≤ i ∧ DpAll K (cut (Dl :: S) G) acc (((ds.take i).filter q).map g)) (i + 1) (upd H4 Dl (.lst (acc ++ [y])))
      else (fun (i : Nat) (G : Hp) => Ex H G ∧ ∃ acc, G Dl = some (.lst acc) ∧ acc.length ≤ i ∧ DpAll K (cut (Dl :: S) G) acc (((ds.take i).filter q).map g)) (i + 1) H3 := by
  obtain ⟨p1, acc, p2, p4, p3⟩ := p
  obtain ⟨d, hd, hdx⟩ := dpa_got (hx H (Ex.refl H)) hi
  have c1 : Ex (cut S H) (cut (Dl :: S) G) := cut_new_le p1 hD
  have D1 : Dom (Dl :: S) G := (D.mono p1).cons p2
  have hdG : Dp K (cut (Dl :: S) G) x d := dp_mono c1 _ hdx
  have hmem := List.mem_of_getElem? hd
  have hil : i < ds.length := (List.getElem?_eq_some_iff.mp hd).1
  have etk : ds.take (i + 1) = ds.take i ++ [d] := by
    rw [List.take_succ, hd]; rfl
  refine ⟨hw x, ht d x _ G p1 c1 D1 hmem hdG G (Ex.refl G) _ fun H3 e3 => ?_⟩
  cases hq : q d with
  | true =>
    show te _ H3 _
    refine he d x _ G p1 c1 D1 hmem hdG hq H3 e3 _ fun y H4 e4 f => ⟨acc, e4 _ _ (e3 _ _ p2), sz_lt (by omega), ?_⟩
    have e5 := (p1.trans e3).trans e4
    refine ⟨Ex.mut e5 hD, acc ++ [y], upd_same, by simp; omega, ?_⟩
    rw [cut_upd (List.mem_cons_self), etk, List.filter_append, List.map_append]
    have e6 : List.map g (List.filter q [d]) = [g d] := by simp [hq]
    rw [e6]
    exact dpa_app (dpa_mono (cut_mono (e3.trans e4)) _ p3) (dpa_one f)
  | false =>
    show Ex H H3 ∧ _
    refine ⟨p1.trans e3, acc, e3 _ _ p2, by omega, ?_⟩
    rw [etk, List.filter_append, List.map_append]
    have e6 : List.map g (List.filter q [d]) = [] := by simp [hq]
    rw [e6, List.append_nil]
    exact dpa_mono (cut_mono e3) _ p3
/-- [e for x in tuple if c] -/
theorem edl_lcT (q : PyData → Bool) (g : PyData → PyData) (D : Dom S H) (h : EvD K S tl σ H (.tuple ds)) (hz : ds.length ≤ 40000) (hw : ∀ x, wipe ((wipe σ vs).set j (some x)) vs = wipe σ vs)
    (ht : ∀ d v S' H1, Ex H H1 → Ex (cut S H) (cut S' H1) → Dom S' H1 → d ∈ ds → Dp K (cut S' H1) v d → EvT t ((wipe σ vs).set j (some v)) H1 (q d))
    (he : ∀ d v S' H1, Ex H H1 → Ex (cut S H) (cut S' H1) → Dom S' H1 → d ∈ ds → Dp K (cut S' H1) v d → q d = true → EvD K S' te ((wipe σ vs).set j (some v)) H1 (g d)) :
    EvDL K S (tLc (iTup K tl) (gName j) t te vs) σ H ((ds.filter q).map g) := fun H0 e Q k => h H0 e _ fun v H1 e1 f => by
  obtain ⟨a, xs, rfl, hs, hx⟩ := dp_tup f
  have e01 := e.trans e1
  refine ⟨a, rfl, ⟨xs, ex_t (cut_le S H1) hs⟩, fun Dl hD => ?_⟩
  have D1 := D.mono e01
  refine lc_tup (xs := xs) (fun (i : Nat) (G : Hp) => Ex H1 G ∧ ∃ acc, G Dl = some (.lst acc) ∧ acc.length ≤ i ∧ DpAll K (cut (Dl :: S) G) acc (((ds.take i).filter q).map g)) ⟨Ex.new hD, [], upd_same, Nat.le_refl _, ?_⟩
    (fun i G _ p => ex_t ((cut_le S H1).trans p.1) hs) (fun i x G hi p => edl_lc0 (K := K) (iT := iTup K tl) (a := a) q g (fun G e => dpa_mono (cut_mono e) _ hx) D1 hz hw
      (fun d v S' H2 a1 a2 => ht d v S' H2 (e01.trans a1) ((cut_mono e01).trans a2)) (fun d v S' H2 a1 a2 => he d v S' H2 (e01.trans a1) ((cut_mono e01).trans a2)) Dl hD i x G hi p) (fun G p => ?_)
  · simp; exact .nil
  · obtain ⟨p1, acc, p2, _, p3⟩ := p
    refine k Dl acc G (fresh_back e1 hD) (e1.trans p1) p2 ?_
    rw [dpa_len hx, List.take_length] at p3
    exact p3
/-- [e for x in list if c], the list told by its address -/
theorem edl_lcL {a : Addr} {xs : List V} (q : PyData → Bool) (g : PyData → PyData) (D : Dom S H) (h : Ev tl σ H (.ref a)) (hs : SqL K H a xs) (hx : DpAll K (cut S H) xs ds) (hz : ds.length ≤ 40000) (hw : ∀ x, wipe ((wipe σ vs).set j (some x)) vs = wipe σ vs)
    (ht : ∀ d v S' H1, Ex H H1 → Ex (cut S H) (cut S' H1) → Dom S' H1 → d ∈ ds → Dp K (cut S' H1) v d → EvT t ((wipe σ vs).set j (some v)) H1 (q d))
    (he : ∀ d v S' H1, Ex H H1 → Ex (cut S H) (cut S' H1) → Dom S' H1 → d ∈ ds → Dp K (cut S' H1) v d → q d = true → EvD K S' te ((wipe σ vs).set j (some v)) H1 (g d)) :
    EvDL K S (tLc (iList K tl) (gName j) t te vs) σ H ((ds.filter q).map g) := fun H0 e Q k => h H0 e _ fun H1 e1 => by
  have e01 := e.trans e1
  have hx := dpa_mono (cut_mono e01) _ hx
  refine ⟨a, rfl, ⟨xs, ex_l e01 hs⟩, fun Dl hD => ?_⟩
  have D1 := D.mono e01
  refine lc_list (xs := xs) (fun (i : Nat) (G : Hp) => Ex H1 G ∧ ∃ acc, G Dl = some (.lst acc) ∧ acc.length ≤ i ∧ DpAll K (cut (Dl :: S) G) acc (((ds.take i).filter q).map g)) ⟨Ex.new hD, [], upd_same, Nat.le_refl _, ?_⟩
    (fun i G _ p => ex_l (e01.trans p.1) hs) (fun i x G hi p => edl_lc0 (K := K) (iT := iList K tl) (a := a) q g (fun G e => dpa_mono (cut_mono e) _ hx) D1 hz hw
      (fun d v S' H2 a1 a2 => ht d v S' H2 (e01.trans a1) ((cut_mono e01).trans a2)) (fun d v S' H2 a1 a2 => he d v S' H2 (e01.trans a1) ((cut_mono e01).trans a2)) Dl hD i x G hi p) (fun G p => ?_)
  · simp; exact .nil
  · obtain ⟨p1, acc, p2, _, p3⟩ := p
    refine k Dl acc G (fresh_back e1 hD) (e1.trans p1) p2 ?_
    rw [dpa_len hx, List.take_length] at p3
    exact p3
/-- [e for x in list if c], the list a datum -/
theorem edl_lcD (q : PyData → Bool) (g : PyData → PyData) (D : Dom S H) (h : EvD K S tl σ H (.list ds)) (hz : ds.length ≤ 40000) (hw : ∀ x, wipe ((wipe σ vs).set j (some x)) vs = wipe σ vs)
    (ht : ∀ d v S' H1, Ex H H1 → Ex (cut S H) (cut S' H1) → Dom S' H1 → d ∈ ds → Dp K (cut S' H1) v d → EvT t ((wipe σ vs).set j (some v)) H1 (q d))
    (he : ∀ d v S' H1, Ex H H1 → Ex (cut S H) (cut S' H1) → Dom S' H1 → d ∈ ds → Dp K (cut S' H1) v d → q d = true → EvD K S' te ((wipe σ vs).set j (some v)) H1 (g d)) :
    EvDL K S (tLc (iList K tl) (gName j) t te vs) σ H ((ds.filter q).map g) := fun H0 e Q k => h H0 e _ fun v H1 e1 f => by
  obtain ⟨a, xs, rfl, hs, hx⟩ := dp_lst f
  have e01 := e.trans e1
  refine ⟨a, rfl, ⟨xs, ex_l (cut_le S H1) hs⟩, fun Dl hD => ?_⟩
  have D1 := D.mono e01
  refine lc_list (xs := xs) (fun (i : Nat) (G : Hp) => Ex H1 G ∧ ∃ acc, G Dl = some (.lst acc) ∧ acc.length ≤ i ∧ DpAll K (cut (Dl :: S) G) acc (((ds.take i).filter q).map g)) ⟨Ex.new hD, [], upd_same, Nat.le_refl _, ?_⟩
    (fun i G _ p => ex_l ((cut_le S H1).trans p.1) hs) (fun i x G hi p => edl_lc0 (K := K) (iT := iList K tl) (a := a) q g (fun G e => dpa_mono (cut_mono e) _ hx) D1 hz hw
      (fun d v S' H2 a1 a2 => ht d v S' H2 (e01.trans a1) ((cut_mono e01).trans a2)) (fun d v S' H2 a1 a2 => he d v S' H2 (e01.trans a1) ((cut_mono e01).trans a2)) Dl hD i x G hi p) (fun G p => ?_)
  · simp; exact .nil
  · obtain ⟨p1, acc, p2, _, p3⟩ := p
    refine k Dl acc G (fresh_back e1 hD) (e1.trans p1) p2 ?_
    rw [dpa_len hx, List.take_length] at p3
    exact p3
theorem et_none : EvT tYes σ H true := fun H1 _ Q q => q H1 (Ex.refl H1)
end
end Dt

set_option Elab.async false
set_option maxRecDepth 100000
set_option maxHeartbeats 2000000
set_option linter.all false
namespace Dt
open PySem L2 Evl
section
variable {K : PySem.W.Frag} {S : List Addr} {σ : L2.St} {H H' : Hp} {ta tb te tl : TE} {t : TT} {d e : PyData} {ds es : List PyData} {j : Nat} {vs : List Nat} {ts : TA} {D : Ends} {tz tu tw : TS} {v : V}
theorem edl_lst (h : EvDA K S ts σ H ds) (hl : ds.length ≤ 100000) : EvDL K S (tLst ts) σ H ds := fun H1 e Q q =>
  h H1 e _ fun vs H2 e2 f => ⟨by rw [dpa_len f]; exact sz_of hl, fun p hp => q p vs _ (fresh_back e2 hp) (e2.trans (Ex.new hp)) upd_same (dpa_mono (cut_new_le (Ex.new hp) hp) _ f)⟩
theorem sd_asgL {i : Nat} (h : EvDL K S te σ H es) (k : ∀ p vs H1, H p = none → Ex H H1 → H1 p = some (.lst vs) → DpAll K (cut (p :: S) H1) vs es → D.nx (σ.set i (some (.ref p))) H1) : tAsg te (gName i) D σ H := h H (Ex.refl H) _ k
theorem qd_asgL {i : Nat} (h : EvDL K S te σ H es) (k : ∀ p vs H1, H p = none → Ex H H1 → H1 p = some (.lst vs) → DpAll K (cut (p :: S) H1) vs es → tz D (σ.set i (some (.ref p))) H1) : tSeq (tAsg te (gName i)) tz D σ H := h H (Ex.refl H) _ k
theorem sd_retL (h : EvDL K S te σ H es) (k : ∀ p vs H1, H p = none → Ex H H1 → H1 p = some (.lst vs) → DpAll K (cut (p :: S) H1) vs es → D.rt (.ref p) H1) : tRet te D σ H := h H (Ex.refl H) _ k
/-- o.f of an own instance -/
theorem ev_fld {C dx a : Addr} {f : Str} {fs : List (Str × V)} (h : Ev ta σ H (.ref a)) (ho : H a = some (.ins C dx fs)) (c : Cls K C) (na : NoAttr K C f) (hl : fs.lookup f = some v) : Ev (tFld K ta f) σ H v := fun H1 e Q q =>
  h H1 e _ fun H2 e2 => ⟨a, C, dx, fs, v, rfl, (e.trans e2) a _ ho, c, na, hl, q H2 e2⟩
/-- o.m(..) of an own instance -/
theorem t_meth {C dx a : Addr} {m : Str} {sp : Sp} {E : XK} {fs : List (Str × V)} {us : List V} {Q : VK} (h : Ev ta σ H (.ref a)) (ho : H a = some (.ins C dx fs)) (hm : fs.lookup m = none) (ha : EvA ts σ H us)
    (k : ∀ H1, Ex H H1 → sp (.ref a :: us) H1 Q E) : tMeth C m sp [] E ta ts σ H Q :=
  h H (Ex.refl H) _ fun H1 e1 => ⟨a, dx, fs, rfl, e1 a _ ho, hm, ha H1 e1 _ fun H2 e2 => by rw [List.append_nil]; exact k H2 (e1.trans e2)⟩
/-- the truth of a list -/
theorem et_truL {a : Addr} {xs : List V} (h : Ev ta σ H (.ref a)) (hl : SqL K H a xs) : EvT (fun σ H Q => ta σ H fun x H' => ∃ k, TruV K x H' k ∧ Q k H') σ H (!xs.isEmpty) := fun H1 e Q q =>
  h H1 e _ fun H2 e2 => ⟨!xs.isEmpty, .inl ⟨xs, ex_l (e.trans e2) hl, rfl⟩, q H2 e2⟩
theorem dpa_rev : ∀ {xs : List V} {ds : List PyData} {h : Hp}, DpAll K h xs ds → DpAll K h xs.reverse ds.reverse
  | _, _, _, .nil => .nil
  | _, _, _, .cons h1 t => by rw [List.reverse_cons, List.reverse_cons]; exact dpa_app (dpa_rev t) (dpa_one h1)
theorem ed_revT (D : Dom S H) (h : EvD K S te σ H (.tuple ds)) : EvD K S (tRevT K te) σ H (.tuple ds.reverse) := fun H1 e Q q =>
  h H1 e _ fun v H2 e2 f => by
    obtain ⟨a, xs, rfl, hs, hx⟩ := dp_tup f
    refine ⟨a, xs, rfl, ex_t (cut_le S H2) hs, fun p hp => q _ _ (e2.trans (Ex.new hp)) (dp_newT (D.mono (e.trans e2)) hp ?_)⟩
    exact dpa_rev hx
theorem ev_lenL {a : Addr} {xs : List V} (h : Ev ta σ H (.ref a)) (hl : SqL K H a xs) : Ev (tCB (rLenS K) (tCons ta tNil)) σ H (.int (xs.length : Int)) := ev_len h hl
theorem ev_ixV {a : Addr} {xs : List V} {i : Int} {x : V} (h : Ev ta σ H (.ref a)) (hl : SqL K H a xs) (hi : Ev tb σ H (.int i)) (q : atI xs i = some x) : Ev (tOp (rIxL K) ta tb) σ H x := ev_op h hi (rv_ixL hl q)
end
end Dt

set_option Elab.async false
set_option maxRecDepth 100000
set_option maxHeartbeats 4000000
set_option linter.all false
namespace Dl
open PySem L2 Evl Dt
theorem wk_dom {C : Addr} {H : Hp} {A : WAd} {τ : Type} {n : Int} {rs : List (Row τ)} {kvs : List (Key × V)} (W : WkAt C H A n rs kvs) : Dom A.all H := fun b hb h => by
  rcases List.mem_append.mp hb with hb | hb
  · simp only [List.mem_cons, List.not_mem_nil, or_false] at hb
    rcases hb with rfl | rfl | rfl | rfl | rfl | rfl | rfl | rfl
    · rw [W.ha] at h; cases h
    · rw [W.hdx] at h; cases h
    · rw [W.hw] at h; cases h
    · rw [W.hl] at h; cases h
    · rw [W.hp] at h; cases h
    · rw [W.hb] at h; cases h
    · rw [W.hr] at h; cases h
    · rw [W.hd] at h; cases h
  · obtain ⟨i, hi⟩ := List.mem_iff_getElem?.mp hb
    have hl := (List.getElem?_eq_some_iff.mp hi).1
    obtain ⟨p, r, hp, hr⟩ := get_ps W.len (i := i) (by rw [← W.len]; exact hl)
    rw [hi] at hp
    cases hp
    rw [W.hq i b r hi hr] at h
    cases h
theorem wk_mono {C : Addr} {H G : Hp} {A : WAd} {τ : Type} {n : Int} {rs : List (Row τ)} {kvs : List (Key × V)} (W : WkAt C H A n rs kvs) (e : Ex H G) : WkAt C G A n rs kvs := wk_keep W fun b o h _ => e b o h
section
variable {K : PySem.W.Frag} {C : Addr} {H : Hp} {A : WAd} {τ : Type} {n : Int} {rs : List (Row τ)} {kvs : List (Key × V)} {σ : L2.St} {ta : TE}
theorem ev_words (Z : WT K C) (W : WkAt C H A n rs kvs) (h : Ev ta σ H (.ref A.a)) : Ev (tFld K ta "words") σ H (.ref A.aw) := ev_fld h W.ha Z.cl Z.nw (wf_words A n)
theorem ev_levers (Z : WT K C) (W : WkAt C H A n rs kvs) (h : Ev ta σ H (.ref A.a)) : Ev (tFld K ta "levers") σ H (.ref A.al) := ev_fld h W.ha Z.cl Z.nl (wf_levers A n)
theorem ev_parts (Z : WT K C) (W : WkAt C H A n rs kvs) (h : Ev ta σ H (.ref A.a)) : Ev (tFld K ta "parts") σ H (.ref A.ap) := ev_fld h W.ha Z.cl Z.np (wf_parts A n)
theorem ev_above (Z : WT K C) (W : WkAt C H A n rs kvs) (h : Ev ta σ H (.ref A.a)) : Ev (tFld K ta "above") σ H (.ref A.ab) := ev_fld h W.ha Z.cl Z.nb (wf_above A n)
theorem ev_rows (Z : WT K C) (W : WkAt C H A n rs kvs) (h : Ev ta σ H (.ref A.a)) : Ev (tFld K ta "rows") σ H (.ref A.ad) := ev_fld h W.ha Z.cl Z.nd (wf_rows A n)
theorem ev_many (Z : WT K C) (W : WkAt C H A n rs kvs) (h : Ev ta σ H (.ref A.a)) : Ev (tFld K ta "many") σ H (.int n) := ev_fld h W.ha Z.cl Z.nm (wf_many A n)
end
mutual
theorem levs_le_size : ∀ t : T, t.levs.length ≤ t.size
  | .lev z => by rw [T.levs, T.size]; exact Nat.le_refl _
  | .knot w ps => by rw [T.levs, T.size]; have := levss_le_sizes ps; omega
theorem levss_le_sizes : ∀ ps : List T, (T.levss ps).length ≤ T.sizes ps
  | [] => Nat.zero_le _
  | t :: r => by
    rw [T.levss, T.sizes, List.length_append]
    have := levs_le_size t
    have := levss_le_sizes r
    omega
end
def item (x : T × Int) : PyData := .tuple [x.1.d, .int x.2]
theorem rdg_small {t0 : T} {rs : List (Row T)} {n : Int} {kvs : List (Key × V)} {st : List (T × Int)} (R : Rdg t0 rs n kvs st) (h1 : t0.levs.length ≤ 200) (h2 : t0.size < t0.levs.length + 200) :
    0 ≤ n ∧ n ≤ 200 ∧ (rs.length : Int) - n < 200 ∧ rs.length ≤ 400 := by
  have a1 := R.size
  have a2 := congrArg List.length R.levs
  have a3 := R.many
  rw [List.length_append] at a2
  have key : ∀ st : List (T × Int), (st.flatMap fun x => x.1.levs).length ≤ szs st := fun st => by
    induction st with
    | nil => exact Nat.zero_le _
    | cons x r ih =>
      have := levs_le_size x.1
      unfold szs at ih ⊢
      rw [List.flatMap_cons, List.length_append, List.map_cons, List.sum_cons]
      omega
  have k1 := key st.reverse
  have k2 : szs st.reverse = szs st := by unfold szs; rw [List.map_reverse, List.sum_reverse]
  omega
def spReadForm (K : PySem.W.Frag) (C : Addr) : Sp := fun vs H Q _ => ∃ (S : List Addr) (v : V) (t0 : T), vs = [v] ∧ Dom S H ∧ Dp K (cut S H) v t0.d ∧ t0.form = true ∧ t0.levs.Nodup ∧ t0.levs.length ≤ 200 ∧ t0.size < t0.levs.length + 200 ∧
  ∀ (H' : Hp) (A : WAd) (n : Int) (rs : List (Row T)) (kvs : List (Key × V)), WkAt C H' A n rs kvs → Rdg t0 rs n kvs [] → Ex H H' → (∀ b ∈ A.all, H b = none) → Q (.ref A.a) H'
theorem len_szs : ∀ st : List (T × Int), st.length ≤ szs st
  | [] => Nat.zero_le _
  | x :: r => by
    have h1 := len_szs r
    have h2 := size_pos x.1
    unfold szs at h1 ⊢
    rw [List.map_cons, List.sum_cons, List.length_cons]
    omega
theorem szs_kids (st : List (T × Int)) (ps : List T) (n : Int) : szs (st ++ (ps.map fun p => (p, n)).reverse) = szs st + T.sizes ps := by
  unfold szs
  rw [List.map_append, List.sum_append, List.map_reverse, List.sum_reverse, List.map_map, sizes_sum]
  rfl
theorem item_kids (st : List (T × Int)) (ps : List T) (n : Int) : (st ++ (ps.map fun p => (p, n)).reverse).map item = st.map item ++ ((ps.map T.d).reverse.filter fun _ => true).map fun d => .tuple [d, .int n] := by
  rw [List.map_append, List.map_reverse, List.map_map, List.filter_eq_self.mpr fun _ _ => rfl, List.map_reverse, List.map_map]
  rfl
theorem isNum_d (t : T) : isNumD t.d = (levOf t).isSome := by
  cases t with
  | lev z => rw [T.d]; show decide ((0 : Int) ≤ (z : Int)) = true; simp
  | knot w ps => rw [T.d]; rfl
theorem isWord_wd (w : Bool) : isWordD (.str (wd w)) = true := by cases w <;> rfl
theorem form_d {w : Bool} {ps : List T} (h : (T.knot w ps).form = true) : formD (T.knot w ps).d = true := by
  rw [T.form, Bool.and_eq_true, Bool.and_eq_true, decide_eq_true_eq, decide_eq_true_eq] at h
  rw [T.d]
  show (isWordD (.str (wd w)) && isSeqD (.tuple (T.ds ps)) && decide (2 ≤ (seqD (.tuple (T.ds ps))).length) && decide ((seqD (.tuple (T.ds ps))).length ≤ 200)) = true
  rw [isWord_wd, T.ds_map]
  show (true && true && decide (2 ≤ (ps.map T.d).length) && decide ((ps.map T.d).length ≤ 200)) = true
  rw [List.length_map, decide_eq_true h.1.1, decide_eq_true h.1.2]
  rfl
theorem wd_ne {a b : Bool} (h : (a == b) = false) : wd b ≠ wd a := by cases a <;> cases b <;> first | (cases h; done) | exact (by decide +kernel : ("all" : Str) ≠ "any") | exact (by decide +kernel : ("any" : Str) ≠ "all")
/-- what the loop keeps -/
structure Lp (K : PySem.W.Frag) (C : Addr) (S : List Addr) (H0 : Hp) (t0 : T) (v0 : V) (m : Nat) (σ : L2.St) (G : Hp) (A : WAd) (n : Int) (rs : List (Row T)) (kvs : List (Key × V)) (st : List (T × Int)) (wl : Addr) (us : List V) (a3 a4 a5 a6 : Option V) : Prop where
  s : σ = [some v0, some (.ref A.a), some (.ref wl), a3, a4, a5, a6]
  W : WkAt C G A n rs kvs
  R : Rdg t0 rs n kvs st
  hwl : G wl = some (.lst us)
  nwl : wl ∉ A.all
  data : DpAll K (cut (wl :: A.all ++ S) G) us (st.map item)
  ex : Ex H0 G
  new : ∀ b ∈ A.all, H0 b = none
  nw : H0 wl = none
  dS : Dom S H0
  m : m = szs st
def LpE (K : PySem.W.Frag) (C : Addr) (S : List Addr) (H0 : Hp) (t0 : T) (v0 : V) (m : Nat) (σ : L2.St) (G : Hp) : Prop := ∃ A n rs kvs st wl us a3 a4 a5 a6, Lp K C S H0 t0 v0 m σ G A n rs kvs st wl us a3 a4 a5 a6
theorem Lp.dom {K C S H0 t0 v0 m σ G A n rs kvs st wl us a3 a4 a5 a6} (L : Lp K C S H0 t0 v0 m σ G A n rs kvs st wl us a3 a4 a5 a6) : Dom (wl :: A.all ++ S) G := fun b hb => by
  rcases List.mem_append.mp hb with hb | hb
  · rcases List.mem_cons.mp hb with e | hb
    · rw [e, L.hwl]; exact fun z => nomatch z
    · exact wk_dom L.W b hb
  · exact (L.dS.mono L.ex) b hb
/-- behind a method: what the list holds is as it was -/
theorem cut_meth {A : WAd} {G H' : Hp} {q wl : Addr} {S : List Addr} (hq : G q = none) (fr : ∀ b o, G b = some o → b ∉ A.all → H' b = some o) :
    Ex (cut (wl :: A.all ++ S) G) (cut (wl :: WAd.all { A with ps := A.ps ++ [q] } ++ S) H') := fun b o h => by
  obtain ⟨h1, h2⟩ := cut_some h
  have h3 : b ∉ A.all := fun z => h1 (List.mem_append_left _ (List.mem_cons_of_mem _ z))
  rw [cut_out (fun z => ?_)]
  · exact fr b o h2 h3
  · rcases List.mem_append.mp z with z | z
    · rcases List.mem_cons.mp z with z | z
      · exact h1 (z ▸ List.mem_append_left _ List.mem_cons_self)
      · have z : b ∈ [A.a, A.dx, A.aw, A.al, A.ap, A.ab, A.ar, A.ad] ++ (A.ps ++ [q]) := z
        rw [← List.append_assoc] at z
        rcases List.mem_append.mp z with z | z
        · exact h3 z
        · rw [List.mem_singleton.mp z, hq] at h2; cases h2
    · exact h1 (List.mem_append_right _ z)
theorem all_snoc {A : WAd} {q b : Addr} (h : b ∈ WAd.all { A with ps := A.ps ++ [q] }) : b ∈ A.all ∨ b = q := by
  have z : b ∈ [A.a, A.dx, A.aw, A.al, A.ap, A.ab, A.ar, A.ad] ++ (A.ps ++ [q]) := h
  rw [← List.append_assoc] at z
  rcases List.mem_append.mp z with z | z
  · exact .inl z
  · exact .inr (List.mem_singleton.mp z)
section
variable {P : Program} {w : World} {K : PySem.W.Frag} {mg : Str → Option Value} {base : Heap} {f C : Addr} {fd : FuncData}
abbrev s_read_form : Stmt := topS 16
abbrev N_read_form : List Str := ["value", "walk", "waiting", "item", "above", "row", "part"]
theorem sc_read_form : FnScope N_read_form ["value"] (defScope s_read_form) := ⟨rfl, rfl, rfl, by decide +kernel, rfl, by decide +kernel, by decide +kernel⟩

theorem ok_read_form (F : Fun K "read_form" "read_form" s_read_form f fd) (Z : WT K C) (T : Nw mg) (h_Walk : HasC P w K mg base C 1 "Walk" (spWInit Dl.T C)) (h_is_number : Has P w K mg base 2 "is_number" ["value"] (spIsNumber K))
    (h_has_knot_form : Has P w K mg base 3 "has_knot_form" ["value"] (spForm K)) (h_m_put_lever : HasM P w K mg base C 2 "put_lever" ["self", "lever", "above"] (spPutLever Dl.T C)) (h_m_put_knot : HasM P w K mg base C 2 "put_knot" ["self", "word", "above"] (spPutKnot Dl.T C)) :
    FnOk P w K mg base CX0 4 f fd ["value"] (spReadForm K C) := by
  refine F.ok sc_read_form (fun vs H Q E h => ?_) (fun cdv A' outer s H vs Q E hr h => ?_)
  · obtain ⟨S, v, t0, rfl, _⟩ := h
    rfl
  · obtain ⟨S, v, t0, rfl, D, hv, hf, hnd, h200, hsz, k⟩ := h
    have nd := sc_read_form.nd
    refine ⟨_, (pss_cons (ps_set (i := 1) nd rfl (Or.inl rfl) (pe_mk0 h_Walk (hr.mono (by first | decide | omega))))
  (pss_cons (ps_set (i := 2) nd rfl (Or.inl rfl) (pe_lst (pa_cons (pe_tup (pa_cons (pv 0) (pa_cons (pe_un un_neg pe_int) pa_nil))) pa_nil)))
  (pss_cons (ps_while PassesOwn.never (pt_truth (pv 2) (by intro _; rfl)) (pss_cons (ps_asg (pe_bm0 PySem.F.plainAttrs_list PySem.F.slot_list_pop PySem.F.type_list_pop mt_pop (pv 2)) (pg_tup rfl (pgs_cons (pg_name (i := 3) nd rfl (Or.inl rfl)) (pgs_cons (pg_name (i := 4) nd rfl (Or.inl rfl)) pgs_nil))))
  (pss_cut (ps_if (pt_val (pe_has h_is_number (hr.mono (by first | decide | omega)) (pa_cons (pv 3) pa_nil))) (pss_one (ps_expr (pe_hasm h_m_put_lever (hr.mono (by first | decide | omega)) (pv 1) (pa_cons (pv 3) (pa_cons (pv 4) pa_nil))))) (pss_one (ps_if (PW.pt (pw_and (pt_val (pe_has h_has_knot_form (hr.mono (by first | decide | omega)) (pa_cons (pv 3) pa_nil))) (pw_and1 (PW.pt (pw_or (pt_cmpR op_lt (pv 4) pe_int (nomark _)) (pw_or1 (pt_cmpR op_ne (pe_ix ix_list (pe_fld (pv 1) rfl) (pv 4) (fun _ _ => rfl)) (pe_ix ix_tup (pv 3) pe_int (fun _ _ => rfl)) (nomark _)))))))) (pss_cons (ps_set (i := 5) nd rfl (Or.inr rfl) (pe_hasm h_m_put_knot (hr.mono (by first | decide | omega)) (pv 1) (pa_cons (pe_ix ix_tup (pv 3) pe_int (fun _ _ => rfl)) (pa_cons (pv 4) pa_nil))))
  (pss_one (ps_expr (pe_bm PySem.F.plainAttrs_list PySem.F.slot_list_extend PySem.F.type_list_extend mt_extend (pv 2) (pa_cons (pe_lc (own := [("part", 6)]) rfl nd (pi_tup (pe_revT (pe_ix ix_tup (pv 3) pe_int (fun _ _ => rfl)))) (blkOk_by (own := [("part", 6)]) (N := N_read_form) (sc := defScope s_read_form) (by decide +kernel)) (fun _ _ _ _ _ => (pg_name (i := 6) nd rfl (Or.inl rfl))) (fun _ _ _ _ _ => pts_nil) (fun _ _ _ _ _ => (pe_tup (pa_cons (pv 6) (pa_cons (pv 5) pa_nil))))) pa_nil))))) (pss_one (ps_ret pe_non)))))
  (pss_one (ps_if (PW.pt (pw_or (pt_cmpR op_gt (pe_fld (pv 1) rfl) (pe_g T.g_MOST_LEVERS) (nomark _)) (pw_or1 (pt_cmpR op_ge (pe_op op_sub (pe_callB call_len_seq (by rfl) T.n_len (by decide +kernel) (pa_cons (pe_fld (pv 1) rfl) pa_nil)) (pe_fld (pv 1) rfl)) (pe_g T.g_MOST_LEVERS) (nomark _))))) (pss_one (ps_ret pe_non)) pss_nil)))))
  (pss_one (ps_ret (pv 1)))))), ?_⟩
    -- walk = Walk()
    refine fun x dx hx hdx hne => ?_
    have e0 : Ex H (upd (upd H dx (.own x)) x (.ins C dx [])) := (Ex.new hdx).trans (Ex.new ((upd_ne hne.symm).trans hx))
    refine ⟨x, dx, rfl, upd_same, (upd_ne hne).trans upd_same, fun H1 A ha hadx hps W fr new => ⟨rfl, ?_⟩⟩
    have e1 : Ex H H1 := fun b o h => fr b o (e0 b o h) fun z => by rw [z, hx] at h; cases h
    have newA : ∀ b ∈ A.all, H b = none := fun b hb => by
      rcases new b hb with z | z | z
      · rw [z]; exact hx
      · rw [z]; exact hdx
      · cases q : H b with
        | none => rfl
        | some o => rw [e0 b o q] at z; cases z
    have D1 : Dom (A.all ++ S) H1 := fun b hb => by
      rcases List.mem_append.mp hb with hb | hb
      · exact wk_dom W b hb
      · exact (D.mono e1) b hb
    have c1 : Ex (cut S H) (cut (A.all ++ S) H1) := fun b o h => by
      obtain ⟨h1, h2⟩ := cut_some h
      rw [cut_out fun z => ?_]
      · exact e1 b o h2
      · rcases List.mem_append.mp z with z | z
        · rw [newA b z] at h2; cases h2
        · exact h1 z
    subst ha
    -- waiting = [(value, -1)]
    refine qd_asgL (K := K) (S := A.all ++ S) (es := [item (t0, -1)]) (edl_lst (eda_cons (ed_tup D1 (eda_cons (ed_var (i := 0) rfl (dp_mono c1 _ hv)) (eda_cons (ed_I (ev_un ev_c ru_neg)) eda_nil)) (show 2 ≤ 100000 by decide)) eda_nil) (show 1 ≤ 100000 by decide)) fun wl us H2 hwl e2 h2 f2 => ?_
    have nwl : wl ∉ A.all := fun z => D1 wl (List.mem_append_left _ z) hwl
    -- the loop
    refine q_while (LpE K C S H t0 v) (szs [(t0, -1)]) ⟨A, 0, [], [], [(t0, -1)], wl, us, none, none, none, none, ⟨rfl, wk_mono W e2, Rdg.start hf, h2, nwl, f2, e1.trans e2, newA, fresh_back e1 hwl, D, rfl⟩⟩ (fun m σ' G L => ?_)
    obtain ⟨A, n, rs, kvs, st, wl, us, a3, a4, a5, a6, L⟩ := L
    obtain ⟨rfl, W, R, hwl, nwl, hdt, ex, newA, nw, dS, rfl⟩ := id L
    refine ⟨!us.isEmpty, et_truL (ev_var (i := 2) rfl) (sq_of hwl), fun hb G1 eG => ?_, fun hb G1 eG => ?_⟩
    · refine ⟨fun σ2 H2 => ∃ m', m' < szs st ∧ LpE K C S H t0 v m' σ2 H2, fun _ _ h => h, ?_⟩
      -- the last item
      obtain ⟨st, ⟨t, a⟩, rfl⟩ : ∃ st' x, st = st' ++ [x] := by
        rcases List.eq_nil_or_concat st with z | ⟨st', x, z⟩
        · subst z
          cases us with
          | nil => cases hb
          | cons a r => exact absurd (dpa_len hdt) (by simp)
        · exact ⟨st', x, by simpa using z⟩
      have W1 := wk_mono W eG
      have ex1 := ex.trans eG
      have hwl1 := eG _ _ hwl
      have hdt1 := dpa_mono (cut_mono eG) _ hdt
      have hlen : us.length = st.length + 1 := by have := dpa_len hdt; simpa using this
      obtain ⟨y, hy, hyd⟩ := dpa_get (i := us.length - 1) hdt1 (d := item (t, a)) (by rw [hlen]; simp)
      obtain ⟨p, xs, rfl, hs, hx⟩ := dp_tup hyd
      obtain ⟨tv, av, rfl, htd, hav⟩ := dpa2 hx
      obtain rfl := dp_int hav
      have hdl : DpAll K (cut (wl :: A.all ++ S) G1) us.dropLast (st.map item) := by
        have := dpa_take st.length hdt1
        rw [List.map_append, List.take_left' (by simp)] at this
        rwa [List.dropLast_eq_take, hlen]
      have mwl : wl ∈ wl :: A.all ++ S := List.mem_append_left _ List.mem_cons_self
      have hs' : SqT K (cut (wl :: A.all ++ S) (upd G1 wl (.lst us.dropLast))) p [tv, .int a] := by rw [cut_upd mwl]; exact hs
      refine ⟨_, rfl, .inl ⟨rfl, us, sq_of hwl1⟩, wl, us, _, rfl, rfl, hwl1, hy, p, [tv, .int a], rfl, ex_t (cut_le (wl :: A.all ++ S) _) hs', rfl, tv, [.int a], rfl, .int a, [], rfl, rfl, ?_⟩
      have hdl2 : DpAll K (cut (wl :: A.all ++ S) (upd G1 wl (.lst us.dropLast))) us.dropLast (st.map item) := by rw [cut_upd mwl]; exact hdl
      have htd2 : Dp K (cut (wl :: A.all ++ S) (upd G1 wl (.lst us.dropLast))) tv t.d := by rw [cut_upd mwl]; exact htd
      have W2 : WkAt C (upd G1 wl (.lst us.dropLast)) A n rs kvs := wk_keep W1 fun b o h hb => (upd_ne fun z : b = wl => nwl (by rw [← z]; exact hb)).trans h
      have ex2 : Ex H (upd G1 wl (.lst us.dropLast)) := Ex.mut ex1 nw
      have D2 : Dom (wl :: A.all ++ S) (upd G1 wl (.lst us.dropLast)) := (L.dom.mono eG).upd
      have hw2 : upd G1 wl (.lst us.dropLast) wl = some (.lst us.dropLast) := upd_same
      generalize upd G1 wl (.lst us.dropLast) = G2 at hdl2 htd2 W2 ex2 D2 hw2 ⊢
      have hrs := rdg_small R h200 hsz
      have hab := R.above _ (List.mem_append_right _ List.mem_cons_self)
      have habove : a < rs.length := by
        rcases hab with ⟨z, _, _⟩ | ⟨p, rp, _, _, z, z2, _⟩
        · have z : a = -1 := z
          omega
        · have z : a = (p : Int) := z
          have := (List.getElem?_eq_some_iff.mp z2).1
          omega
      have hbig : ∀ r ∈ rs, r.parts.length ≤ 1000 := fun r hr => Nat.le_trans (R.big r hr) (by decide)
      have stp := R.step hnd
      have hszs : szs (st ++ [(t, a)]) = szs st + t.size := by unfold szs; rw [List.map_append, List.sum_append]; simp
      show tCut _ _ _ [some v, some (.ref A.a), some (.ref wl), some tv, some (.int a), a5, a6] G2
      refine q_cut (M := fun σ2 H2 => ∃ m', m' < szs (st ++ [(t, a)]) ∧ LpE K C S H t0 v m' σ2 H2) ?_ ?_
      · have v3 : EvD K (wl :: A.all ++ S) (tVar 3) [some v, some (.ref A.a), some (.ref wl), some tv, some (.int a), a5, a6] G2 t.d := ed_var (i := 3) rfl htd2
        refine s_if (et_B (ev_ask D2 v3)) (fun hn G3 e3 => ?_) (fun hn G3 e3 => ?_)
        · -- a lever
          rw [isNum_d] at hn
          cases t with
          | knot w ps => cases hn
          | lev z =>
            have W3 := wk_mono W2 e3
            have htv : tv = .int (z : Int) := by rw [Dl.T.d] at htd2; exact dp_int htd2
            subst htv
            refine ⟨_, rfl, A.a, A.dx, _, rfl, W3.ha, wf_lever A n, _, rfl, _, rfl, A, n, rs, kvs, (z : Int), a, .lev z, rfl, W3, by omega, habove, hbig, Nat.le_trans R.dlen (by omega), fun H' q hq W4 fr => ?_⟩
            have hq2 : G2 q = none := fresh_back e3 hq
            have qwl : wl ≠ q := fun z => by rw [← z, hw2] at hq2; cases hq2
            have c4 := cut_meth (wl := wl) (S := S) hq fr
            have ex4 : Ex H H' := fun b o h => fr b o (e3 _ _ (ex2 b o h)) fun z => by rw [newA b z] at h; cases h
            rw [Dl.T.size] at hszs
            refine ⟨szs st, by omega, { A with ps := A.ps ++ [q] }, n + 1, _, _, st, wl, us.dropLast, _, _, _, _, ⟨rfl, W4, ?_, fr _ _ (e3 _ _ hw2) nwl, ?_, dpa_mono ((cut_mono e3).trans c4) _ hdl2, ex4, ?_, nw, dS, rfl⟩⟩
            · have := stp
              rw [show (kidsOf (.lev z)) = [] from rfl] at this
              simp only [List.map_nil, List.reverse_nil, List.append_nil] at this
              exact this
            · intro m
              rcases all_snoc m with m | m
              · exact nwl m
              · exact qwl m
            · intro b hb
              rcases all_snoc hb with m | m
              · exact newA b m
              · rw [m]; exact fresh_back ex2 hq2
        · rw [isNum_d] at hn
          cases t with
          | lev z => cases hn
          | knot w ps =>
            have hform : (Dl.T.knot w ps).form = true := R.form _ (List.mem_append_right _ List.mem_cons_self)
            have v3' := v3.mono e3
            have D3 := D2.mono e3
            have W3 := wk_mono W2 e3
            have i0 : EvD K (wl :: A.all ++ S) (tOp (rIxT K) (tVar 3) (tC (.int 0))) [some v, some (.ref A.a), some (.ref wl), some tv, some (.int a), a5, a6] G3 (.str (wd w)) := by
              rw [Dl.T.d] at v3'
              exact ed_ixT v3' ed_int rfl
            have hne : EvT (tOr (tTest (tOp (rI0 fun i j => .bl (decide (i < j))) (tVar 4) (tC (.int 0)))) (tTest (tOp rNe (tOp (rIxL K) (tFld K (tVar 1) "words") (tVar 4)) (tOp (rIxT K) (tVar 3) (tC (.int 0)))))) [some v, some (.ref A.a), some (.ref wl), some tv, some (.int a), a5, a6] G3 true := by
              rcases hab with ⟨z, _, _⟩ | ⟨p, rp, w', ps', z, z2, z3, z4⟩
              · have z : a = -1 := z
                subst z
                exact et_is (b := true) (et_or (b := true) (et_test (ev_op (ev_var (i := 4) rfl) ev_c rv_I0)) fun z => nomatch z) rfl
              · have z : a = (p : Int) := z
                have z5 := R.ok p rp z2
                unfold RowOk at z5
                simp only [z3] at z5
                have z4 : (w == w') = false := z4
                subst z
                refine et_is (et_or (et_test (ev_op (ev_var (i := 4) rfl) ev_c rv_I0)) fun _ => et_test (ev_op (ev_ixV (ev_words Z W3 (ev_var (i := 1) rfl)) (sq_of W3.hw) (ev_var (i := 4) rfl) (atI_map z2)) i0.str (rv_ne rfl))) ?_
                have : decide (V.str rp.word = V.str (wd w)) = false := by
                  rw [z5.1]
                  exact decide_eq_false fun e => wd_ne z4 (V.str.inj e)
                rw [this, Bool.not_false, Bool.or_true]
            refine s_if (b := true) (et_and (et_is (et_B (ev_ask D3 v3')) (form_d hform)) fun _ => hne) (fun _ G4 e4 => ?_) (fun z => nomatch z)
            have W4 := wk_mono W3 e4
            refine t_meth (ev_var (i := 1) rfl) W4.ha (wf_knot A n) (ea_cons (i0.str.mono e4) (ea_cons (ev_var (i := 4) rfl) ea_nil)) fun G5 e5 => ?_
            have W5 := wk_mono W4 e5
            have e35 := e3.trans (e4.trans e5)
            refine ⟨A, n, rs, kvs, wd w, a, .knot w ps, rfl, W5, by omega, habove, hbig, fun H' q hq W6 fr => ?_⟩
            have hq2 : G2 q = none := fresh_back e35 hq
            have qwl : wl ≠ q := fun z => by rw [← z, hw2] at hq2; cases hq2
            have c4 := cut_meth (wl := wl) (S := S) hq fr
            have ex4 : Ex H H' := fun b o h => fr b o (e35 _ _ (ex2 b o h)) fun z => by rw [newA b z] at h; cases h
            have hwl6 : H' wl = some (.lst us.dropLast) := fr _ _ (e35 _ _ hw2) nwl
            have hdt6 := dpa_mono ((cut_mono e35).trans c4) _ hdl2
            have htd6 := dp_mono ((cut_mono e35).trans c4) _ htd2
            have nwl6 : wl ∉ WAd.all { A with ps := A.ps ++ [q] } := fun m => by
              rcases all_snoc m with m | m
              · exact nwl m
              · exact qwl m
            have new6 : ∀ b ∈ WAd.all { A with ps := A.ps ++ [q] }, H b = none := fun b hb => by
              rcases all_snoc hb with m | m
              · exact newA b m
              · rw [m]; exact fresh_back ex2 hq2
            have D6 : Dom (wl :: WAd.all { A with ps := A.ps ++ [q] } ++ S) H' := fun b hb => by
              rcases List.mem_append.mp hb with hb | hb
              · rcases List.mem_cons.mp hb with z | hb
                · rw [z, hwl6]; exact fun z => nomatch z
                · exact wk_dom W6 b hb
              · exact (dS.mono ex4) b hb
            have ea : ({ A with ps := A.ps ++ [q] } : WAd).a = A.a := rfl
            generalize ({ A with ps := A.ps ++ [q] } : WAd) = A6 at W6 c4 hdt6 htd6 nwl6 new6 D6 ea
            -- waiting.extend(..)
            have v3'' : EvD K (wl :: A6.all ++ S) (tVar 3) [some v, some (.ref A.a), some (.ref wl), some tv, some (.int a), some (.int (rs.length : Int)), a6] H' (Dl.T.knot w ps).d := ed_var (i := 3) rfl htd6
            have i1 : EvD K (wl :: A6.all ++ S) (tOp (rIxT K) (tVar 3) (tC (.int 1))) [some v, some (.ref A.a), some (.ref wl), some tv, some (.int a), some (.int (rs.length : Int)), a6] H' (.tuple (ps.map Dl.T.d)) := by
              rw [Dl.T.d, Dl.T.ds_map] at v3''
              exact ed_ixT v3'' ed_int rfl
            have hlc := edl_lcT (vs := [6]) (j := 6) (te := tTup (tCons (tVar 6) (tCons (tVar 5) tNil))) (t := tYes) (fun _ => true) (fun d => .tuple [d, .int (rs.length : Int)]) D6 (ed_revT D6 i1) (by
                rw [Dl.T.form, Bool.and_eq_true, Bool.and_eq_true, decide_eq_true_eq, decide_eq_true_eq] at hform
                rw [List.length_reverse, List.length_map]
                omega) (fun x => rfl) (fun d v S' H1 _ _ _ _ _ => et_none) (fun d v S' H1 _ _ DD _ hd _ => ed_tup DD (eda_cons (ed_var (i := 6) rfl hd) (eda_cons (ed_I (ev_var (i := 5) rfl)) eda_nil)) (show 2 ≤ 100000 by decide))
            refine ⟨_, rfl, .inl ⟨rfl, _, sq_of hwl6⟩, hlc H' (Ex.refl H') _ fun p zs H7 hp e7 h7 f7 => ⟨wl, p, _, zs, rfl, rfl, e7 _ _ hwl6, h7, ?_, ?_⟩⟩
            · have h1 := len_szs st
              have h2 := R.size
              rw [Dl.T.form, Bool.and_eq_true, Bool.and_eq_true, decide_eq_true_eq, decide_eq_true_eq] at hform
              have h3 := dpa_len f7
              rw [List.length_map, List.filter_eq_self.mpr fun _ _ => rfl, List.length_reverse, List.length_map] at h3
              rw [List.length_dropLast, h3]
              exact sz_of (by omega)
            · rw [Dl.T.size] at hszs
              have nwl7 : p ≠ wl := fun z => by rw [z, hwl6] at hp; cases hp
              refine ⟨szs (st ++ (ps.map fun p => (p, (rs.length : Int))).reverse), by rw [szs_kids]; omega, A6, n, putRow rs (wd w) (-1) a (.knot w ps), kvs, _, wl, us.dropLast ++ zs, _, _, _, _, ⟨by rw [ea]; rfl, ?_, ?_, upd_same, nwl6, ?_, Ex.mut (ex4.trans e7) nw, new6, nw, dS, rfl⟩⟩
              · refine wk_keep (wk_mono W6 e7) fun b o h hb => (upd_ne fun z : b = wl => nwl6 (by rw [← z]; exact hb)).trans h
              · have := stp
                rw [show n + (((levOf (Dl.T.knot w ps)).toList.length : Nat) : Int) = n from Int.add_zero n] at this
                exact this
              · rw [item_kids, cut_upd (List.mem_append_left _ List.mem_cons_self)]
                refine dpa_app (dpa_mono (cut_mono e7) _ hdt6) (dpa_mono (cut_sub fun b hb => List.mem_cons_of_mem _ hb) _ f7)
      · rintro σ3 G3 ⟨m', hm', L3⟩
        obtain ⟨A3, n3, rs3, kvs3, st3, wl3, us3, b3, b4, b5, b6, L3⟩ := L3
        obtain ⟨rfl, W3, R3, _⟩ := id L3
        have h3 := rdg_small R3 h200 hsz
        refine s_when (b := false) (et_is (et_or (et_test (ev_op (ev_many Z W3 (ev_var (i := 1) rfl)) ev_c rv_I0)) fun _ => et_test (ev_op (ev_op (ev_len (ev_words Z W3 (ev_var (i := 1) rfl)) (sq_of W3.hw)) (ev_many Z W3 (ev_var (i := 1) rfl)) rv_I0) ev_c rv_I0)) ?_) (fun z => nomatch z) fun _ G4 e4 => ?_
        · rw [List.length_map]
          rw [Bool.or_eq_false_iff]
          exact ⟨decide_eq_false (by omega), decide_eq_false (by omega)⟩
        · exact ⟨m', hm', A3, n3, rs3, kvs3, st3, wl3, us3, b3, b4, b5, b6, { L3 with W := wk_mono W3 e4, hwl := e4 _ _ L3.hwl, data := dpa_mono (cut_mono e4) _ L3.data, ex := L3.ex.trans e4 }⟩
    · have hus : us = [] := by cases us with | nil => rfl | cons a r => cases hb
      have hst : st = [] := by
        have := dpa_len hdt
        rw [hus, List.length_map] at this
        exact List.eq_nil_of_length_eq_zero this.symm
      subst hst
      refine s_ret (ev_var (i := 1) rfl) fun G2 e2 => k G2 A n rs kvs (wk_mono W (eG.trans e2)) R (ex.trans (eG.trans e2)) newA
end
end Dl

set_option Elab.async false
set_option maxRecDepth 100000
set_option maxHeartbeats 4000000
set_option linter.all false
/-! the rows, all read; least levers, the order -/
namespace Dl
open PySem L2 Evl Dt
mutual
def T.low : T → Int
  | .lev z => z
  | .knot _ ps => T.lows ps
def T.lows : List T → Int
  | [] => 0
  | t :: r => if r.isEmpty then t.low else min t.low (T.lows r)
end
def nextOk (t : T) : List T → Bool
  | [] => true
  | u :: _ => decide (t.low < u.low)
mutual
def T.ord : T → Bool
  | .lev _ => true
  | .knot _ ps => T.ords ps
def T.ords : List T → Bool
  | [] => true
  | t :: r => t.ord && nextOk t r && T.ords r
end
theorem lows_min : ∀ {ps : List T}, ps ≠ [] → T.lows ps ∈ ps.map T.low ∧ ∀ y ∈ ps.map T.low, T.lows ps ≤ y
  | [], h => absurd rfl h
  | [t], _ => by
    have e : T.lows [t] = t.low := by rw [T.lows]; rfl
    rw [e]
    refine ⟨List.mem_singleton_self _, fun y hy => ?_⟩
    rw [List.mem_singleton.mp hy]
    exact Int.le_refl _
  | t :: u :: r, _ => by
    have e : T.lows (t :: u :: r) = min t.low (T.lows (u :: r)) := by rw [T.lows]; rfl
    obtain ⟨h1, h2⟩ := lows_min (ps := u :: r) (by simp)
    rw [e, List.map_cons]
    refine ⟨?_, fun y hy => ?_⟩
    · by_cases h : t.low ≤ T.lows (u :: r)
      · rw [Int.min_eq_left h]; exact List.mem_cons_self
      · rw [Int.min_eq_right (by omega)]; exact List.mem_cons_of_mem _ h1
    · rcases List.mem_cons.mp hy with z | z
      · rw [z]; exact Int.min_le_left _ _
      · exact Int.le_trans (Int.min_le_right _ _) (h2 y z)
theorem ords_mem : ∀ {ps : List T}, T.ords ps = true → ∀ t ∈ ps, t.ord = true
  | [], _, _, m => nomatch m
  | a :: r, h, t, m => by
    rw [T.ords, Bool.and_eq_true, Bool.and_eq_true] at h
    rcases List.mem_cons.mp m with e | m
    · rw [e]; exact h.1.1
    · exact ords_mem h.2 t m
theorem ords_next : ∀ {ps : List T}, T.ords ps = true → ∀ (j : Nat) (a b : T), ps[j]? = some a → ps[j + 1]? = some b → a.low < b.low
  | [], _, _, _, _, m, _ => by simp at m
  | [t], _, j, a, b, _, m => by simp at m
  | t :: u :: r, h, 0, a, b, m1, m2 => by
    rw [T.ords, Bool.and_eq_true, Bool.and_eq_true] at h
    simp at m1 m2
    subst m1 m2
    exact of_decide_eq_true h.1.2
  | t :: u :: r, h, j + 1, a, b, m1, m2 => by
    rw [T.ords, Bool.and_eq_true, Bool.and_eq_true] at h
    exact ords_next h.2 j a b (by simpa using m1) (by simpa using m2)
section
variable {t0 : T} {rs : List (Row T)} {n : Int} {kvs : List (Key × V)} (R : Rdg t0 rs n kvs [])
include R
theorem row_kids {i : Nat} {r : Row T} {w : Bool} {ps : List T} (h : rs[i]? = some r) (e : r.sub = .knot w ps) :
    r.parts.length = ps.length ∧ ∀ (j c : Nat), r.parts[j]? = some c → i < c ∧ c < rs.length ∧ ∃ rc p, rs[c]? = some rc ∧ ps[j]? = some p ∧ rc.sub = p ∧ rc.above = i := by
  obtain ⟨k1, k2, k3, k4⟩ := R.kids i r w ps h e
  have k5 : ps.length ≤ r.parts.length := by
    have : (ps.drop r.parts.length).length = 0 := by rw [← k3]; rfl
    rw [List.length_drop] at this
    omega
  refine ⟨by omega, fun j c hj => ?_⟩
  obtain ⟨a1, a2, a3, a4⟩ := k1 j c hj
  have hjl := (List.getElem?_eq_some_iff.mp hj).1
  refine ⟨a1, a2, rs[c], ps[j]'(by omega), List.getElem?_eq_getElem a2, List.getElem?_eq_getElem (by omega), ?_, a4 _ (List.getElem?_eq_getElem a2)⟩
  unfold subs at a3
  rw [List.getElem?_eq_getElem a2, List.getElem?_eq_getElem (by omega), Option.map_some] at a3
  exact Option.some.inj a3
theorem row_lev {i : Nat} {r : Row T} {z : Nat} (h : rs[i]? = some r) (e : r.sub = .lev z) : r.word = "" ∧ r.lever = (z : Int) ∧ r.parts = [] := by
  have := R.ok i r h
  unfold RowOk at this
  simp only [e] at this
  exact this
theorem row_knot {i : Nat} {r : Row T} {w : Bool} {ps : List T} (h : rs[i]? = some r) (e : r.sub = .knot w ps) : r.word = wd w ∧ r.lever = -1 ∧ 2 ≤ ps.length ∧ ps.length ≤ 200 := by
  have h1 := R.ok i r h
  unfold RowOk at h1
  simp only [e] at h1
  have h2 := R.rform i r h
  rw [e, T.form, Bool.and_eq_true, Bool.and_eq_true, decide_eq_true_eq, decide_eq_true_eq] at h2
  exact ⟨h1.1, h1.2, h2.1.1, h2.1.2⟩
/-- what holds of the tree and goes down to parts holds of each row -/
theorem rows_all {Pr : T → Prop} (h0 : Pr t0) (hk : ∀ w ps, Pr (.knot w ps) → ∀ t ∈ ps, Pr t) : ∀ (i : Nat) (r : Row T), rs[i]? = some r → Pr r.sub := by
  intro i
  induction i using Nat.strongRecOn with
  | _ i ih =>
    intro r hr
    rcases R.up i r hr with ⟨e, _⟩ | ⟨p, rp, _, hp, hrp, hm⟩
    · subst e
      rw [R.root r hr]
      exact h0
    · have h1 := ih p hp rp hrp
      cases hs : rp.sub with
      | lev z =>
        rw [(row_lev R hrp hs).2.2] at hm
        exact nomatch hm
      | knot w ps =>
        rw [hs] at h1
        obtain ⟨j, hj⟩ := List.mem_iff_getElem?.mp hm
        obtain ⟨_, _, rc, q, a1, a2, a3, _⟩ := (row_kids R hrp hs).2 j i hj
        rw [hr] at a1
        cases a1
        rw [a3]
        exact hk w ps h1 q (List.mem_of_getElem? a2)
theorem row0 : ∃ r, rs[0]? = some r ∧ r.sub = t0 := by
  have h1 := R.size
  have h2 := size_pos t0
  have h3 : szs [] = 0 := rfl
  have h4 : 0 < rs.length := by omega
  exact ⟨rs[0], List.getElem?_eq_getElem h4, R.root _ (List.getElem?_eq_getElem h4)⟩
theorem rows_levs : rs.filterMap (fun r => levOf r.sub) = t0.levs := by
  have := R.levs
  simpa using this
theorem rows_many : n = (t0.levs.length : Nat) := by
  rw [← rows_levs R]
  exact R.many
theorem rows_len : rs.length = t0.size := by
  have := R.size
  exact this
theorem lever_levs : ((rs.map fun r => r.lever).filter fun x => decide (0 ≤ x)) = t0.levs.map fun (z : Nat) => (z : Int) := by
  rw [← rows_levs R]
  have key : ∀ l : List (Row T), (∀ r ∈ l, (r.lever = match r.sub with | .lev z => (z : Int) | .knot _ _ => -1)) → ((l.map fun r => r.lever).filter fun x => decide (0 ≤ x)) = (l.filterMap fun r => levOf r.sub).map fun (z : Nat) => (z : Int) := by
    intro l
    induction l with
    | nil => intro _; rfl
    | cons r l ih =>
      intro h
      have h1 := h r List.mem_cons_self
      have h2 := ih fun r hr => h r (List.mem_cons_of_mem _ hr)
      rw [List.map_cons, List.filter_cons, List.filterMap_cons, h2]
      cases hs : r.sub with
      | lev z =>
        rw [hs] at h1
        have h1 : r.lever = (z : Int) := h1
        rw [if_pos (by rw [h1]; simp), h1]
        rfl
      | knot w ps =>
        rw [hs] at h1
        have h1 : r.lever = -1 := h1
        rw [if_neg (by rw [h1]; simp)]
        rfl
  refine key rs fun r hr => ?_
  obtain ⟨i, hi⟩ := List.mem_iff_getElem?.mp hr
  cases hs : r.sub with
  | lev z => exact (row_lev R hi hs).2.1
  | knot w ps => exact (row_knot R hi hs).2.1
end
/-- the cells while rows are gone through from the last: behind the i-th turn, what g gives, before, what is there -/
def cells {α : Type} (rs : List (Row T)) (old new : Row T → α) (i : Nat) : List α := rs.mapIdx fun j r => if rs.length ≤ j + i then new r else old r
theorem cells_get {α : Type} {rs : List (Row T)} {old new : Row T → α} {i j : Nat} {r : Row T} (h : rs[j]? = some r) : (cells rs old new i)[j]? = some (if rs.length ≤ j + i then new r else old r) := by
  unfold cells
  rw [List.getElem?_mapIdx, h]
  rfl
theorem cells_0 {α : Type} {rs : List (Row T)} {old new : Row T → α} : cells rs old new 0 = rs.map old := by
  refine List.ext_getElem? fun j => ?_
  rw [List.getElem?_map]
  cases h : rs[j]? with
  | none =>
    unfold cells
    rw [List.getElem?_mapIdx, h]
    rfl
  | some r =>
    have := (List.getElem?_eq_some_iff.mp h).1
    rw [cells_get h, if_neg (by omega)]
    rfl
theorem cells_all {α : Type} {rs : List (Row T)} {old new : Row T → α} : cells rs old new rs.length = rs.map new := by
  refine List.ext_getElem? fun j => ?_
  rw [List.getElem?_map]
  cases h : rs[j]? with
  | none =>
    unfold cells
    rw [List.getElem?_mapIdx, h]
    rfl
  | some r => rw [cells_get h, if_pos (by omega)]; rfl
theorem cells_len {α : Type} {rs : List (Row T)} {old new : Row T → α} {i : Nat} : (cells rs old new i).length = rs.length := by unfold cells; simp
theorem cells_set {α : Type} {rs : List (Row T)} {old new : Row T → α} {i : Nat} {r : Row T} (hi : i < rs.length) (h : rs[rs.length - 1 - i]? = some r) : (cells rs old new i).set (rs.length - 1 - i) (new r) = cells rs old new (i + 1) := by
  refine List.ext_getElem? fun j => ?_
  rw [List.getElem?_set]
  by_cases e : rs.length - 1 - i = j
  · subst e
    rw [if_pos rfl, cells_len, if_pos (by omega), cells_get h, if_pos (by omega)]
  · rw [if_neg e]
    cases hj : rs[j]? with
    | none =>
      unfold cells
      rw [List.getElem?_mapIdx, List.getElem?_mapIdx, hj]
      rfl
    | some rj =>
      rw [cells_get hj, cells_get hj]
      have := (List.getElem?_eq_some_iff.mp hj).1
      by_cases h2 : rs.length ≤ j + i
      · rw [if_pos h2, if_pos (by omega)]
      · rw [if_neg h2, if_neg (by omega)]
theorem cells_same {α : Type} {rs : List (Row T)} {old new : Row T → α} {i : Nat} {r : Row T} (hi : i < rs.length) (h : rs[rs.length - 1 - i]? = some r) (e : old r = new r) : cells rs old new i = cells rs old new (i + 1) := by
  refine List.ext_getElem? fun j => ?_
  cases hj : rs[j]? with
  | none =>
    unfold cells
    rw [List.getElem?_mapIdx, List.getElem?_mapIdx, hj]
    rfl
  | some rj =>
    rw [cells_get hj, cells_get hj]
    have := (List.getElem?_eq_some_iff.mp hj).1
    by_cases h1 : rs.length - 1 - i = j
    · subst h1
      rw [h] at hj
      cases hj
      rw [if_neg (by omega), if_pos (by omega), e]
    · by_cases h2 : rs.length ≤ j + i
      · rw [if_pos h2, if_pos (by omega)]
      · rw [if_neg h2, if_neg (by omega)]
end Dl

set_option Elab.async false
set_option maxRecDepth 100000
set_option maxHeartbeats 2000000
set_option linter.all false
namespace Dt
open PySem L2 Evl
section
variable {K : PySem.W.Frag} {S : List Addr} {σ : L2.St} {H H' : Hp} {ta tb te tl : TE} {t : TT} {d e : PyData} {ds es : List PyData} {j : Nat} {vs : List Nat} {ts : TA} {D : Ends} {tz tu tw : TS} {v : V}
theorem EvDL.ints {ns : List Int} (h : EvDL K S te σ H (nums ns)) : EvL te σ H (ns.map V.int) := fun H1 e Q q =>
  h H1 e _ fun p vs H2 hp e2 h2 f => q p H2 hp e2 (by rw [h2, dpa_ints f])
theorem ev_minL {ns : List Int} {m : Int} (h : EvL tl σ H (ns.map V.int)) (hn : 0 < ns.length) (hm : m ∈ ns) (hl : ∀ y ∈ ns, m ≤ y) : Ev (tCB (rMin K) (tCons tl tNil)) σ H (.int m) := fun H1 e Q q =>
  h H1 e _ fun p H2 hp e2 h2 => ⟨p, ns, rfl, sq_of h2, hn, fun m' h3 h4 => by
    rw [show m' = m from Int.le_antisymm (h4 m hm) (hl m' h3)]
    exact q H2 e2⟩
theorem ev_sumL {ns : List Int} (h : EvL tl σ H (ns.map V.int)) : Ev (tCB (rSum K) (tCons tl tNil)) σ H (.int ns.sum) := fun H1 e Q q =>
  h H1 e _ fun p H2 hp e2 h2 => ⟨p, ns, rfl, sq_of h2, q H2 e2⟩
/-- the whole as it stands, of ints -/
theorem lc_ints {ns : List Int} {g : Int → Int} {a : Addr} {xs : List V} (h : Ev tl σ H (.ref a)) (hs : SqL K H a (ns.map V.int)) (hz : ns.length ≤ 40000) (hw : ∀ x, wipe ((wipe σ vs).set j (some x)) vs = wipe σ vs)
    (he : ∀ i H1, Ex H H1 → i ∈ ns → Ev te ((wipe σ vs).set j (some (.int i))) H1 (.int (g i))) : EvL (tLc (iList K tl) (gName j) tYes te vs) σ H ((ns.map g).map V.int) := by
  have h1 := edl_lcL (K := K) (S := []) (t := tYes) (te := te) (ds := nums ns) (fun _ => true) (fun d => match d with | .int i => .int (g i) | _ => .none) Dom.nil h hs (nums_dpa ns) (by unfold nums; rw [List.length_map]; exact hz) hw (fun d v S' H1 _ _ _ _ _ => et_none) (fun d v S' H1 e1 _ _ hm hd _ => by
    obtain ⟨i, hi, rfl⟩ := List.mem_map.mp hm
    rw [dp_int hd]
    exact ed_I (he i H1 e1 hi))
  refine EvDL.ints (K := K) (S := []) ?_
  have e : ((nums ns).filter fun _ => true).map (fun d => match d with | .int i => PyData.int (g i) | _ => .none) = nums (ns.map g) := by
    rw [List.filter_eq_self.mpr fun _ _ => rfl]
    unfold nums
    rw [List.map_map, List.map_map]
    rfl
  rw [← e]
  exact h1
theorem el_rev {te : L2.St → Hp → (Int → Int → Hp → Prop) → Prop} {n : Nat} (hn : n ≤ 4000000) (h : ∀ H1, Ex H H1 → ∀ Q : Int → Int → Hp → Prop, (∀ H2, Ex H1 H2 → Q 0 n H2) → te σ H1 Q) : EvL (tLstRev te) σ H (revV n) := fun H1 e Q q =>
  h H1 e _ fun H2 e2 => ⟨rfl, by omega, by omega, fun p hp => q p _ (fresh_back e2 hp) (e2.trans (Ex.new hp)) (by rw [upd_same]; simp)⟩
theorem rg_1 {n : Int} (h : Ev ta σ H (.int n)) : ∀ H1, Ex H H1 → ∀ Q : Int → Int → Hp → Prop, (∀ H2, Ex H1 H2 → Q 0 n H2) → tRg1 ta σ H1 Q := fun H1 e Q q => h H1 e _ fun H2 e2 => ⟨n, rfl, q H2 e2⟩
theorem el_rg {te : L2.St → Hp → (Int → Int → Hp → Prop) → Prop} {n : Nat} (hn : n ≤ 4000000) (h : ∀ H1, Ex H H1 → ∀ Q : Int → Int → Hp → Prop, (∀ H2, Ex H1 H2 → Q 0 n H2) → te σ H1 Q) : EvL (tLstRg te) σ H (((List.range n).map fun (i : Nat) => (i : Int)).map V.int) := fun H1 e Q q =>
  h H1 e _ fun H2 e2 => ⟨RgOk.of_le (Int.le_refl _) (by omega) (by decide) (by omega), fun p hp => q p _ (fresh_back e2 hp) (e2.trans (Ex.new hp)) (by
    rw [upd_same]
    congr 2
    unfold rgV
    rw [List.map_map]
    have e : ((n : Int) - 0).toNat = n := by omega
    rw [e]
    refine List.map_congr_left fun i _ => ?_
    show V.int (0 + (i : Int)) = V.int i
    rw [Int.zero_add])⟩
theorem revV_get {n i : Nat} (h : i < n) : (revV n)[i]? = some (.int ((n - 1 - i : Nat) : Int)) := by
  unfold revV
  rw [List.getElem?_map, List.getElem?_range h, Option.map_some]
  congr 2
  omega
end
end Dt

set_option Elab.async false
set_option maxRecDepth 100000
set_option maxHeartbeats 4000000
set_option linter.all false
namespace Dl
open PySem L2 Evl Dt
section
variable {P : Program} {w : World} {K : PySem.W.Frag} {mg : Str → Option Value} {base : Heap} {f C : Addr} {fd : FuncData} {τ : Type}
def spInner (C : Addr) : Sp := fun vs H Q _ => ∃ (A : WAd) (n : Int) (rs : List (Row T)) (kvs : List (Key × V)), vs = [.ref A.a] ∧ WkAt C H A n rs kvs ∧ rs.length ≤ 1000 ∧ RetL (revV rs.length) H Q
abbrev s_inner_first : Stmt := topS 17
abbrev N_inner_first : List Str := ["walk"]
theorem sc_inner_first : FnScope N_inner_first ["walk"] (defScope s_inner_first) := ⟨rfl, rfl, rfl, by decide +kernel, rfl, by decide +kernel, by decide +kernel⟩

theorem ok_inner_first (F : Fun K "inner_first" "inner_first" s_inner_first f fd) (Z : WT K C) (T : Nm mg) : FnOk P w K mg base CX0 1 f fd ["walk"] (spInner C) := by
  refine F.ok sc_inner_first (fun vs H Q E h => ?_) (fun cdv A' outer s H vs Q E hr h => ?_)
  · obtain ⟨A, n, rs, kvs, rfl, _⟩ := h
    rfl
  · obtain ⟨A, n, rs, kvs, rfl, W, hl, k⟩ := h
    have nd := sc_inner_first.nd
    refine ⟨_, (pss_one (ps_ret (pe_listRev rfl T.n_list rfl T.n_reversed (prg_1 rfl T.n_range (pe_callB call_len_seq (by rfl) T.n_len (by decide +kernel) (pa_cons (pe_fld (pv 0) rfl) pa_nil)))))), ?_⟩
    have hw : Ev (tCB (rLenS K) (tCons (tFld K (tVar 0) "words") tNil)) (start N_inner_first [V.ref A.a]) H (.int (rs.length : Int)) := by
      have := ev_len (ev_words Z W (ev_var (σ := start N_inner_first [V.ref A.a]) (i := 0) rfl)) (K := K) (sq_of W.hw)
      rwa [List.length_map] at this
    exact s_retL (el_rev (by omega) (rg_1 hw)) fun p H1 hp e1 h1 => k.go (Ex.refl H) hp e1 h1
theorem el_inner {σ : L2.St} {H : Hp} {ta : TE} {A : WAd} {n : Int} {rs : List (Row T)} {kvs : List (Key × V)} {E : XK} (W : WkAt C H A n rs kvs) (h : Ev ta σ H (.ref A.a)) (hl : rs.length ≤ 1000) : EvL (tCall (spInner C) [] E (tCons ta tNil)) σ H (revV rs.length) := fun H1 e Q q =>
  h H1 e _ fun H2 e2 => ⟨A, n, rs, kvs, rfl, wk_mono W (e.trans e2), hl, fun p H3 hp e3 h3 => q p H3 (fresh_back e2 hp) (e2.trans e3) h3⟩
/-- walk.parts[row] -/
theorem ev_part {σ : L2.St} {H : Hp} {ta tb : TE} {A : WAd} {n : Int} {rs : List (Row τ)} {kvs : List (Key × V)} {i : Nat} {p : Addr} (Z : WT K C) (W : WkAt C H A n rs kvs) (h : Ev ta σ H (.ref A.a)) (hi : Ev tb σ H (.int (i : Int))) (hp : A.ps[i]? = some p) :
    Ev (tOp (rIxL K) (tFld K ta "parts") tb) σ H (.ref p) := ev_ixV (ev_parts Z W h) (sq_of W.hp) hi (atI_map hp)
def spLeast (C : Addr) : Sp := fun vs H Q _ => ∃ (A : WAd) (n : Int) (t0 : T) (rs : List (Row T)) (kvs : List (Key × V)), vs = [.ref A.a] ∧ WkAt C H A n rs kvs ∧ Rdg t0 rs n kvs [] ∧ rs.length ≤ 1000 ∧ RetL (rs.map fun r => .int r.sub.low) H Q
abbrev s_least_levers : Stmt := topS 18
abbrev N_least_levers : List Str := ["walk", "least", "row", "part"]
theorem sc_least_levers : FnScope N_least_levers ["walk"] (defScope s_least_levers) := ⟨rfl, rfl, rfl, by decide +kernel, rfl, by decide +kernel, by decide +kernel⟩

theorem ok_least_levers (F : Fun K "least_levers" "least_levers" s_least_levers f fd) (Z : WT K C) (T : Nm mg) (h_inner_first : Has P w K mg base 1 "inner_first" ["walk"] (spInner C)) : FnOk P w K mg base CX0 2 f fd ["walk"] (spLeast C) := by
  refine F.ok sc_least_levers (fun vs H Q E h => ?_) (fun cdv A' outer s H vs Q E hr h => ?_)
  · obtain ⟨A, n, t0, rs, kvs, rfl, _⟩ := h
    rfl
  · obtain ⟨A, n, t0, rs, kvs, rfl, W, R, hl, k⟩ := h
    have nd := sc_least_levers.nd
    refine ⟨_, (pss_cons (ps_set (i := 1) nd rfl (Or.inr rfl) (pe_callTy call_list_of (by rfl) T.n_list (by decide +kernel) (pa_cons (pe_fld (pv 0) rfl) pa_nil)))
  (pss_cons (ps_for PassesOwn.never rfl (pi_list (pe_has h_inner_first (hr.mono (by first | decide | omega)) (pa_cons (pv 0) pa_nil))) (pg_name (i := 2) nd rfl (Or.inl rfl)) (pss_one (ps_if (pt_truth (pe_ix ix_list (pe_fld (pv 0) rfl) (pv 2) (fun _ _ => rfl)) (by intro _; rfl)) (pss_one (ps_asg (pe_callB (cr_min rfl) (by rfl) T.n_min (by decide +kernel) (pa_cons (pe_lc (own := [("part", 3)]) rfl nd (pi_list (pe_ix ix_list (pe_fld (pv 0) rfl) (pv 2) (fun _ _ => rfl))) (blkOk_by (own := [("part", 3)]) (N := N_least_levers) (sc := defScope s_least_levers) (by decide +kernel)) (fun _ _ _ _ _ => (pg_name (i := 3) nd rfl (Or.inl rfl))) (fun _ _ _ _ _ => pts_nil) (fun _ _ _ _ _ => (pe_ix (show IxR _ (rIxL K) from ix_list) (pv 1) (pv 3) (fun _ _ => rfl)))) pa_nil)) (pg_sub (pv 1) (pv 2) set_list))) pss_nil)))
  (pss_one (ps_ret (pv 1))))), ?_⟩
    refine q_asgL (el_list (ev_levers Z W (ev_var (i := 0) rfl)) (sq_of W.hl)) fun l H1 hl0 e1 h1 => ?_
    have W1 := wk_mono W e1
    let old : Row Dl.T → Int := fun r => r.lever
    let new : Row Dl.T → Int := fun r => r.sub.low
    refine q_forNLn (j := 2) (el_inner W1 (ev_var (i := 0) rfl) hl) (fun p i σ' G => ∃ x2 x3, σ' = [some (.ref A.a), some (.ref l), x2, x3] ∧ Ex H G ∧ G p = some (.lst (revV rs.length)) ∧ p ≠ l ∧ G l = some (.lst ((cells rs old new i).map V.int)))
      (fun p H2 hp e2 h2 => ⟨none, none, rfl, e1.trans e2, h2, fun z => (by rw [z, h1] at hp; cases hp), by rw [cells_0, e2 _ _ h1, List.map_map]; rfl⟩)
      (fun p i σ' G _ ⟨x2, x3, _, _, h, _⟩ => sq_of h) ?_ ?_
    · rintro p i x σ' G hx ⟨x2, x3, rfl, eG, hpG, hpl, hlG⟩
      have hi : i < rs.length := by
        have := (List.getElem?_eq_some_iff.mp hx).1
        rwa [revV_length] at this
      rw [revV_get hi] at hx
      cases hx
      have WG := wk_mono W eG
      obtain ⟨q, r, hq, hr'⟩ := get_ps W.len (i := rs.length - 1 - i) (by omega)
      have hqG := WG.hq _ q r hq hr'
      show tIfS _ _ _ _ [some (.ref A.a), some (.ref l), some (.int ((rs.length - 1 - i : Nat) : Int)), x3] G
      refine s_when (et_truL (ev_part Z WG (ev_var (i := 0) rfl) (ev_var (i := 2) rfl) hq) (sq_of hqG)) (fun hb G1 e2 => ?_) (fun hb G1 e2 => ?_)
      · cases hs : r.sub with
        | lev z =>
          rw [(row_lev R hr' hs).2.2] at hb
          cases hb
        | knot w ps =>
          obtain ⟨k1, k2⟩ := row_kids R hr' hs
          obtain ⟨_, _, k3, k4⟩ := row_knot R hr' hs
          have WG1 := wk_mono WG e2
          have hlG1 := e2 _ _ hlG
          have hpne : ps ≠ [] := fun z => by rw [z] at k3; exact absurd k3 (by decide)
          obtain ⟨m1, m2⟩ := lows_min hpne
          have hmap : (r.parts.map fun (c : Nat) => (c : Int)).map (fun c => (rs[c.toNat]?.map new).getD 0) = ps.map Dl.T.low := by
            rw [List.map_map]
            refine List.ext_getElem? fun j => ?_
            rw [List.getElem?_map, List.getElem?_map]
            cases hj : r.parts[j]? with
            | none =>
              have := List.getElem?_eq_none_iff.mp hj
              rw [List.getElem?_eq_none_iff.mpr (by omega)]
              rfl
            | some c =>
              obtain ⟨_, _, rc, pc, a1, a2, a3, _⟩ := k2 j c hj
              rw [a2]
              show some ((rs[((c : Nat) : Int).toNat]?.map new).getD 0) = some pc.low
              rw [Int.toNat_natCast, a1, ← a3]
              rfl
          have hlc := lc_ints (K := K) (j := 3) (vs := [3]) (xs := []) (te := tOp (rIxL K) (tVar 1) (tVar 3)) (ns := r.parts.map fun (c : Nat) => (c : Int)) (g := fun c => (rs[c.toNat]?.map new).getD 0)
            (ev_part Z WG1 (ev_var (σ := [some (.ref A.a), some (.ref l), some (.int ((rs.length - 1 - i : Nat) : Int)), x3]) (i := 0) rfl) (ev_var (i := 2) rfl) hq) (sq_of (by rw [List.map_map]; exact e2 _ _ hqG)) (by rw [List.length_map]; omega) (fun x => rfl) (fun c' G2 e3 hc => by
              obtain ⟨c, hc2, rfl⟩ := List.mem_map.mp hc
              obtain ⟨j, hj⟩ := List.mem_iff_getElem?.mp hc2
              obtain ⟨b1, b2, rc, pc, a1, a2, a3, _⟩ := k2 j c hj
              refine ev_ixV (ev_var (i := 1) rfl) (sq_of (e3 _ _ hlG1)) (ev_var (i := 3) rfl) (atI_map (g := V.int) ?_)
              rw [cells_get a1, if_pos (by omega), Int.toNat_natCast, a1]
              rfl)
          rw [hmap] at hlc
          refine s_setL (j := rs.length - 1 - i) hlG1 (ev_minL hlc (by rw [List.length_map]; omega) m1 m2) (ev_var (i := 1) rfl) (ev_var (i := 2) rfl) (by rw [List.length_map, cells_len]; omega) fun G2 e3 => ?_
          refine ⟨_, _, rfl, Ex.mut (eG.trans (e2.trans e3)) hl0, (upd_ne hpl).trans (e3 _ _ (e2 _ _ hpG)), hpl, ?_⟩
          rw [upd_same, ← cells_set hi hr', List.map_set]
          show some (HO.lst (_)) = some (HO.lst (_))
          have e5 : new r = Dl.T.lows ps := by show r.sub.low = _; rw [hs, Dl.T.low]
          rw [e5]
      · cases hs : r.sub with
        | knot w ps =>
          obtain ⟨k1, _⟩ := row_kids R hr' hs
          have k3 := (row_knot R hr' hs).2.2.1
          have : r.parts = [] := by
            cases hp : r.parts with
            | nil => rfl
            | cons a b => rw [hp] at hb; cases hb
          rw [this] at k1
          simp at k1
          omega
        | lev z =>
          refine ⟨_, _, rfl, eG.trans e2, e2 _ _ hpG, hpl, ?_⟩
          rw [← cells_same hi hr' (show r.lever = r.sub.low by rw [hs, (row_lev R hr' hs).2.1, Dl.T.low])]
          exact e2 _ _ hlG
    · rintro p σ' G ⟨x2, x3, rfl, eG, hpG, hpl, hlG⟩
      rw [revV_length, cells_all, List.map_map] at hlG
      exact s_ret (ev_var (i := 1) rfl) fun G1 e2 => k l G1 hl0 (eG.trans e2) (e2 _ _ hlG)
end
end Dl

set_option Elab.async false
set_option maxRecDepth 100000
set_option maxHeartbeats 2000000
set_option linter.all false
namespace Dt
open PySem L2 Evl
theorem depth_ints : ∀ ns : List Int, PyData.depthAll (nums ns) = 0
  | [] => by unfold nums; simp only [List.map_nil]; rw [PyData.depthAll]
  | n :: r => by
    have h := depth_ints r
    unfold nums at h ⊢
    rw [List.map_cons, PyData.depthAll, h, PyData.depth]
    rfl
theorem lay_ints : ∀ ns : List Int, PyData.canLayAll0 (nums ns) = true
  | [] => by unfold nums; simp only [List.map_nil]; rw [PyData.canLayAll0]
  | n :: r => by
    have h := lay_ints r
    unfold nums at h ⊢
    rw [List.map_cons, PyData.canLayAll0, h, PyData.canLay0]
    rfl
theorem shaped_ints (ns : List Int) : SeqAt.shaped (.list (nums ns)) = true := by
  unfold SeqAt.shaped
  rw [PyData.canLay0, lay_ints, PyData.depth, depth_ints]
  rfl
theorem shapedT_ints (ns : List Int) : SeqAt.shaped (.tuple (nums ns)) = true := by
  unfold SeqAt.shaped
  rw [PyData.canLay0, lay_ints, PyData.depth, depth_ints]
  rfl
theorem eqvAll_ints : ∀ ns ms : List Int, PyData.eqvAll (nums ns) (nums ms) = decide (ns = ms)
  | [], [] => by unfold nums; simp only [List.map_nil]; rw [PyData.eqvAll]; rfl
  | [], m :: ms => by unfold nums; simp only [List.map_nil, List.map_cons]; rw [PyData.eqvAll]; simp
  | n :: ns, [] => by unfold nums; simp only [List.map_nil, List.map_cons]; rw [PyData.eqvAll]; simp
  | n :: ns, m :: ms => by
    have h := eqvAll_ints ns ms
    unfold nums at h ⊢
    rw [List.map_cons, List.map_cons, PyData.eqvAll, h, PyData.eqv]
    rw [Bool.eq_iff_iff]
    simp
theorem eqv_ints (ns ms : List Int) : PyData.eqv (.list (nums ns)) (.list (nums ms)) = decide (ns = ms) := by rw [PyData.eqv, eqvAll_ints]
theorem eqvT_ints (ns ms : List Int) : PyData.eqv (.tuple (nums ns)) (.tuple (nums ms)) = decide (ns = ms) := by rw [PyData.eqv, eqvAll_ints]
section
variable {K : PySem.W.Frag} {S : List Addr} {σ : L2.St} {H H' : Hp} {ta tb te tl : TE} {t : TT} {D : Ends} {tz tu tw : TS} {v : V}
theorem ed_ofInts {ns : List Int} (h : EvL te σ H (ns.map V.int)) : EvD K [] te σ H (.list (nums ns)) := fun H1 e Q q =>
  h H1 e _ fun p H2 hp e2 h2 => q _ H2 e2 (.lst (sq_of (by rw [cut_nil]; exact h2)) (nums_dpa ns))
theorem el_sorted {ns ms : List Int} (h : EvL te σ H (ns.map V.int)) (hp : ms.Perm ns) (hs : ms.Pairwise (· ≤ ·)) : EvL (tCB (rSortedI K) (tCons te tNil)) σ H (ms.map V.int) := fun H1 e Q q =>
  h H1 e _ fun p H2 hp2 e2 h2 => ⟨p, ns, rfl, sq_of h2, fun ns' r hp' hs' hr => by
    have e3 : ns' = ms := (hp'.trans hp.symm).eq_of_pairwise (fun x y _ _ h1 h2 => Int.le_antisymm h1 h2) hs' hs
    refine q r _ (fresh_back e2 hr) (e2.trans (Ex.new hr)) ?_
    rw [upd_same, e3]⟩
theorem rv_isN {x : V} : RV (fun x y H Q => y = V.non ∧ Q (.bl (decide (x = .non))) H) x .non H (.bl (decide (x = .non))) := fun H1 _ Q q => ⟨rfl, q H1 (Ex.refl H1)⟩
end
end Dt

set_option Elab.async false
set_option maxRecDepth 100000
set_option maxHeartbeats 2000000
set_option linter.all false
namespace Dt
open PySem L2 Evl
theorem flat_one {α : Type} (x : α) : ∀ n : Nat, (List.replicate n [x]).flatten = List.replicate n x
  | 0 => rfl
  | n + 1 => by rw [List.replicate_succ, List.replicate_succ, List.flatten_cons, flat_one x n]; rfl
section
variable {K : PySem.W.Frag} {S : List Addr} {σ : L2.St} {H H' : Hp} {ta tb te tl : TE} {t : TT} {D : Ends} {tz tu tw : TS} {v : V}
theorem el_rep {x : V} {n : Nat} (ha : EvL ta σ H [x]) (hb : ∀ H1, Ex H H1 → Ev tb σ H1 (.int (n : Int))) (hn : n ≤ 100000) : EvL (tOp rRep ta tb) σ H (List.replicate n x) := fun H1 e Q q =>
  ha H1 e _ fun p H2 hp e2 h2 => hb H2 (e.trans e2) H2 (Ex.refl H2) _ fun H3 e3 => ⟨p, n, [x], rfl, rfl, e3 _ _ h2, by omega, by omega, by
    rw [Int.toNat_natCast]
    exact sz_of (by simpa using hn), fun r hr => by
    refine q r _ (fresh_back (e2.trans e3) hr) ((e2.trans e3).trans (Ex.new hr)) ?_
    rw [upd_same, Int.toNat_natCast]
    rw [flat_one]⟩
/-- for i, x in enumerate(list): the list stands still -/
theorem s_forEn {a b : Nat} {l : Addr} {xs : List V} (h : Ev tl σ H (.ref l)) (hx : SqL K H l xs) (Pv : Nat → L2.St → Hp → Prop) (h0 : ∀ H1, Ex H H1 → Pv 0 σ H1) (hl : ∀ i σ' H', i ≤ xs.length → Pv i σ' H' → SqL K H' l xs)
    (hs : ∀ i x σ' H', xs[i]? = some x → Pv i σ' H' → ∀ G, Ex H' G → tu { D with nx := Pv (i + 1), ct := Pv (i + 1), bk := D.nx } ((σ'.set a (some (.int (i : Int)))).set b (some x)) G) (hd : ∀ σ' H', Pv xs.length σ' H' → D.nx σ' H') :
    tFor (iEnum K (tCons tl tNil)) (gTup K 2 (gCons (gName a) (gCons (gName b) gNil))) tu D σ H :=
  h H (Ex.refl H) _ fun H1 e => ⟨l, xs, rfl, ex_l e hx, fun i m σ H => m = xs.length - i ∧ i ≤ xs.length ∧ Pv i σ H, ⟨xs.length, rfl, Nat.zero_le _, h0 H1 e⟩, by
    rintro i m σ' H' ⟨rfl, hi, p⟩
    have hq := hl i σ' H' hi p
    by_cases e2 : i = xs.length
    · exact .inl ⟨⟨xs, hq, by omega⟩, hd σ' H' (e2 ▸ p)⟩
    · have hlt : i < xs.length := by omega
      refine .inr ⟨⟨xs, xs[i], hq, List.getElem?_eq_getElem hlt⟩, fun σ2 H2 => Pv (i + 1) σ2 H2, fun σ2 H2 p2 => ⟨xs.length - (i + 1), by omega, rfl, by omega, p2⟩, ?_⟩
      rintro x H2 ⟨T, y, rfl, hT, rfl, hy⟩
      have hxy : xs[i]? = some y := hy xs hq
      exact ⟨T, [.int (i : Int), y], rfl, st_of upd_same, rfl, .int (i : Int), [y], rfl, y, [], rfl, rfl, hs i y σ' H' hxy p _ (Ex.new hT)⟩⟩
theorem q_forEn {a b : Nat} {l : Addr} {xs : List V} (h : Ev tl σ H (.ref l)) (hx : SqL K H l xs) (Pv : Nat → L2.St → Hp → Prop) (h0 : ∀ H1, Ex H H1 → Pv 0 σ H1) (hl : ∀ i σ' H', i ≤ xs.length → Pv i σ' H' → SqL K H' l xs)
    (hs : ∀ i x σ' H', xs[i]? = some x → Pv i σ' H' → ∀ G, Ex H' G → tu { D with nx := Pv (i + 1), ct := Pv (i + 1), bk := tz D } ((σ'.set a (some (.int (i : Int)))).set b (some x)) G) (hd : ∀ σ' H', Pv xs.length σ' H' → tz D σ' H') :
    tSeq (tFor (iEnum K (tCons tl tNil)) (gTup K 2 (gCons (gName a) (gCons (gName b) gNil))) tu) tz D σ H := s_forEn (D := { D with nx := tz D }) h hx Pv h0 hl hs hd
/-- for x, y in zip(list, list) -/
theorem s_forZip {a b : Nat} {l r : Addr} {xs ys : List V} (h1 : Ev ta σ H (.ref l)) (h2 : Ev tb σ H (.ref r)) (hx : SqL K H l xs) (hy : SqL K H r ys) (hlen : xs.length = ys.length) (Pv : Nat → L2.St → Hp → Prop) (h0 : ∀ H1, Ex H H1 → Pv 0 σ H1)
    (hq : ∀ i σ' H', Pv i σ' H' → SqL K H' l xs ∧ SqL K H' r ys)
    (hs : ∀ i x y σ' H', xs[i]? = some x → ys[i]? = some y → Pv i σ' H' → ∀ G, Ex H' G → tu { D with nx := Pv (i + 1), ct := Pv (i + 1), bk := D.nx } ((σ'.set a (some x)).set b (some y)) G) (hd : ∀ σ' H', Pv xs.length σ' H' → D.nx σ' H') :
    tFor (iZip K (tCons ta (tCons tb tNil))) (gTup K 2 (gCons (gName a) (gCons (gName b) gNil))) tu D σ H :=
  h1 H (Ex.refl H) _ fun H1 e1 => h2 H1 e1 _ fun H2 e2 => ⟨l, r, xs, ys, rfl, ex_l (e1.trans e2) hx, ex_l (e1.trans e2) hy, fun i m σ H => m = xs.length - i ∧ i ≤ xs.length ∧ Pv i σ H, ⟨xs.length, rfl, Nat.zero_le _, h0 H2 (e1.trans e2)⟩, by
    rintro i m σ' H' ⟨rfl, hi, p⟩
    obtain ⟨qx, qy⟩ := hq i σ' H' p
    by_cases e3 : i = xs.length
    · exact .inl ⟨⟨xs, ys, qx, qy, .inl (by omega)⟩, hd σ' H' (e3 ▸ p)⟩
    · have hlt : i < xs.length := by omega
      refine .inr ⟨⟨xs, ys, xs[i], ys[i]'(by omega), qx, qy, List.getElem?_eq_getElem hlt, List.getElem?_eq_getElem (by omega)⟩, fun σ2 H2 => Pv (i + 1) σ2 H2, fun σ2 H2 p2 => ⟨xs.length - (i + 1), by omega, rfl, by omega, p2⟩, ?_⟩
      rintro v H3 ⟨T, x, y, rfl, hT, rfl, hx', hy'⟩
      exact ⟨T, [x, y], rfl, st_of upd_same, rfl, x, [y], rfl, y, [], rfl, rfl, hs i x y σ' H' (hx' xs qx) (hy' ys qy) p _ (Ex.new hT)⟩⟩
theorem q_forZip {a b : Nat} {l r : Addr} {xs ys : List V} (h1 : Ev ta σ H (.ref l)) (h2 : Ev tb σ H (.ref r)) (hx : SqL K H l xs) (hy : SqL K H r ys) (hlen : xs.length = ys.length) (Pv : Nat → L2.St → Hp → Prop) (h0 : ∀ H1, Ex H H1 → Pv 0 σ H1)
    (hq : ∀ i σ' H', Pv i σ' H' → SqL K H' l xs ∧ SqL K H' r ys)
    (hs : ∀ i x y σ' H', xs[i]? = some x → ys[i]? = some y → Pv i σ' H' → ∀ G, Ex H' G → tu { D with nx := Pv (i + 1), ct := Pv (i + 1), bk := tz D } ((σ'.set a (some x)).set b (some y)) G) (hd : ∀ σ' H', Pv xs.length σ' H' → tz D σ' H') :
    tSeq (tFor (iZip K (tCons ta (tCons tb tNil))) (gTup K 2 (gCons (gName a) (gCons (gName b) gNil))) tu) tz D σ H := s_forZip (D := { D with nx := tz D }) h1 h2 hx hy hlen Pv h0 hq hs hd
end
end Dt

set_option Elab.async false
set_option maxRecDepth 100000
set_option maxHeartbeats 4000000
set_option linter.all false
namespace Dl
open PySem L2 Evl Dt
section
variable {P : Program} {w : World} {K : PySem.W.Frag} {mg : Str → Option Value} {base : Heap} {f C : Addr} {fd : FuncData} {τ : Type}
theorem el_least {σ : L2.St} {H : Hp} {ta : TE} {A : WAd} {n : Int} {t0 : T} {rs : List (Row T)} {kvs : List (Key × V)} {E : XK} (W : WkAt C H A n rs kvs) (R : Rdg t0 rs n kvs []) (h : Ev ta σ H (.ref A.a)) (hl : rs.length ≤ 1000) :
    EvL (tCall (spLeast C) [] E (tCons ta tNil)) σ H (rs.map fun r => .int r.sub.low) := fun H1 e Q q =>
  h H1 e _ fun H2 e2 => ⟨A, n, t0, rs, kvs, rfl, wk_mono W (e.trans e2), R, hl, fun p H3 hp e3 h3 => q p H3 (fresh_back e2 hp) (e2.trans e3) h3⟩
def spOrdered (C : Addr) : Sp := fun vs H Q _ => ∃ (A : WAd) (n : Int) (t0 : T) (rs : List (Row T)) (kvs : List (Key × V)), vs = [.ref A.a] ∧ WkAt C H A n rs kvs ∧ Rdg t0 rs n kvs [] ∧ rs.length ≤ 1000 ∧ t0.ord = true ∧ RetV (.bl true) H Q
abbrev s_is_ordered : Stmt := topS 19
abbrev N_is_ordered : List Str := ["walk", "least", "word", "parts", "at"]
theorem sc_is_ordered : FnScope N_is_ordered ["walk"] (defScope s_is_ordered) := ⟨rfl, rfl, rfl, by decide +kernel, rfl, by decide +kernel, by decide +kernel⟩

theorem ok_is_ordered (F : Fun K "is_ordered" "is_ordered" s_is_ordered f fd) (Z : WT K C) (T : Nm mg) (h_least_levers : Has P w K mg base 2 "least_levers" ["walk"] (spLeast C)) : FnOk P w K mg base CX0 3 f fd ["walk"] (spOrdered C) := by
  refine F.ok sc_is_ordered (fun vs H Q E h => ?_) (fun cdv A' outer s H vs Q E hr h => ?_)
  · obtain ⟨A, n, t0, rs, kvs, rfl, _⟩ := h
    rfl
  · obtain ⟨A, n, t0, rs, kvs, rfl, W, R, hl, ho, k⟩ := h
    have nd := sc_is_ordered.nd
    refine ⟨_, (pss_cons (ps_set (i := 1) nd rfl (Or.inl rfl) (pe_has h_least_levers (hr.mono (by first | decide | omega)) (pa_cons (pv 0) pa_nil)))
  (pss_cons (ps_for PassesOwn.never rfl (pi_zip (by rfl) T.n_zip (pa_cons (pe_fld (pv 0) rfl) (pa_cons (pe_fld (pv 0) rfl) pa_nil))) (pg_tup rfl (pgs_cons (pg_name (i := 2) nd rfl (Or.inl rfl)) (pgs_cons (pg_name (i := 3) nd rfl (Or.inl rfl)) pgs_nil))) (pss_one (ps_for PassesOwn.never rfl (pi_range2 rfl T.n_range (pa_cons pe_int (pa_cons (pe_callB call_len_seq (by rfl) T.n_len (by decide +kernel) (pa_cons (pv 3) pa_nil)) pa_nil))) (pg_name (i := 4) nd rfl (Or.inl rfl)) (pss_one (ps_if (PW.pt (pw_and (pt_cmpR op_ne (pv 2) pe_str (nomark _)) (pw_and1 (pt_cmpR op_ge (pe_ix ix_list (pv 1) (pe_ix ix_list (pv 3) (pe_op op_sub (pv 4) pe_int) (fun _ _ => rfl)) (fun _ _ => rfl)) (pe_ix ix_list (pv 1) (pe_ix ix_list (pv 3) (pv 4) (fun _ _ => rfl)) (fun _ _ => rfl)) (nomark _))))) (pss_one (ps_ret pe_bl)) pss_nil)))))
  (pss_one (ps_ret pe_bl)))), ?_⟩
    refine q_asgL (el_least W R (ev_var (i := 0) rfl) hl) fun l H1 hl0 e1 h1 => ?_
    have W1 := wk_mono W e1
    have hord := rows_all R (Pr := fun t => t.ord = true) ho fun w ps h t ht => by
      rw [Dl.T.ord] at h
      exact ords_mem h t ht
    have word_ne : ∀ t : Dl.T, V.str (wordOf t) ≠ V.str "choose" := fun t => by
      cases t with
      | lev z => exact fun z => absurd (V.str.inj z) (show ("" : Str) ≠ "choose" by decide +kernel)
      | knot w ps =>
        cases w
        · exact fun z => absurd (V.str.inj z) (show ("any" : Str) ≠ "choose" by decide +kernel)
        · exact fun z => absurd (V.str.inj z) (show ("all" : Str) ≠ "choose" by decide +kernel)
    refine q_forZip (a := 2) (b := 3) (ev_words Z W1 (ev_var (i := 0) rfl)) (ev_parts Z W1 (ev_var (i := 0) rfl)) (sq_of W1.hw) (sq_of W1.hp) (by rw [List.length_map, List.length_map, W1.len]) (fun i σ' G => ∃ x2 x3 x4, σ' = [some (.ref A.a), some (.ref l), x2, x3, x4] ∧ Ex H1 G) (fun H2 e2 => ⟨none, none, none, rfl, e2⟩)
      (fun i σ' G ⟨x2, x3, x4, _, e⟩ => ⟨sq_of (e _ _ W1.hw), sq_of (e _ _ W1.hp)⟩) ?_ ?_
    · rintro i x y σ' G0 hxw hx ⟨x2, x3, x4, rfl, eG0⟩ G eGG
      have eG := eG0.trans eGG
      rw [List.getElem?_map] at hx hxw
      obtain ⟨q, hq, rfl⟩ := Option.map_eq_some_iff.mp hx
      have hi : i < rs.length := by rw [← W.len]; exact (List.getElem?_eq_some_iff.mp hq).1
      obtain ⟨r, hr'⟩ : ∃ r, rs[i]? = some r := ⟨rs[i], List.getElem?_eq_getElem hi⟩
      rw [hr'] at hxw
      cases hxw
      have hwn : V.str r.word ≠ V.str "choose" := by
        cases hs : r.sub with
        | lev z => rw [(row_lev R hr' hs).1]; exact word_ne (.lev z)
        | knot w ps => rw [(row_knot R hr' hs).1]; exact word_ne (.knot w ps)
      have hqG := (wk_mono W1 eG).hq _ q r hq hr'
      have hpl := R.big r (List.mem_of_getElem? hr')
      show tFor _ _ _ _ [some (.ref A.a), some (.ref l), some (.str r.word), some (.ref q), x4] G
      have hlen : Ev (tCB (rLenS K) (tCons (tVar 3) tNil)) [some (.ref A.a), some (.ref l), some (.str r.word), some (.ref q), x4] G (.int (r.parts.length : Int)) := by
        have := ev_len (K := K) (ev_var (σ := [some (.ref A.a), some (.ref l), some (.str r.word), some (.ref q), x4]) (i := 3) (H := G) rfl) (sq_of hqG)
        rwa [List.length_map] at this
      refine s_forR2 (lo := 1) (n := (r.parts.length : Int)) (ea_cons ev_c (ea_cons hlen ea_nil)) (by omega) (fun j σ' G' => ∃ x3, σ' = [some (.ref A.a), some (.ref l), some (.str r.word), some (.ref q), x3] ∧ Ex H1 G') (fun H2 e2 => ⟨x4, rfl, eG.trans e2⟩) ?_ ?_
      · rintro j σ' G' hj ⟨x3, rfl, eG'⟩
        have hqG' := (wk_mono W1 eG').hq _ q r hq hr'
        obtain ⟨c0, hc0⟩ : ∃ c, r.parts[j]? = some c := ⟨r.parts[j]'(by omega), List.getElem?_eq_getElem (by omega)⟩
        obtain ⟨c1, hc1⟩ : ∃ c, r.parts[j + 1]? = some c := ⟨r.parts[j + 1]'(by omega), List.getElem?_eq_getElem (by omega)⟩
        cases hs : r.sub with
        | lev z =>
          rw [(row_lev R hr' hs).2.2] at hc0
          simp at hc0
        | knot w ps =>
          obtain ⟨k1, k2⟩ := row_kids R hr' hs
          obtain ⟨_, _, rc0, p0, a1, a2, a3, _⟩ := k2 j c0 hc0
          obtain ⟨_, _, rc1, p1, b1, b2, b3, _⟩ := k2 (j + 1) c1 hc1
          have h2 := hord i r hr'
          rw [hs, Dl.T.ord] at h2
          have h3 := ords_next h2 j p0 p1 a2 b2
          have hlG := eG' _ _ h1
          have x1 : ∀ {c : Nat} {rc : Row Dl.T} {k : Nat} {te : TE}, r.parts[k]? = some c → rs[c]? = some rc → Ev te [some (.ref A.a), some (.ref l), some (.str r.word), some (.ref q), some (.int (1 + (j : Int)))] G' (.int (k : Int)) →
              Ev (tOp (rIxL K) (tVar 1) (tOp (rIxL K) (tVar 3) te)) [some (.ref A.a), some (.ref l), some (.str r.word), some (.ref q), some (.int (1 + (j : Int)))] G' (.int rc.sub.low) := fun hk hc he =>
            ev_ixV (ev_var (i := 1) rfl) (sq_of hlG) (ev_ixV (ev_var (i := 3) rfl) (sq_of hqG') he (atI_map hk)) (atI_map (g := fun r : Row Dl.T => V.int r.sub.low) hc)
          refine s_when (b := false) (et_is (et_and (et_test (ev_op (ev_var (i := 2) rfl) ev_c (rv_ne rfl))) fun _ => et_test (ev_op (x1 hc0 a1 (ev_is (ev_op (ev_var (i := 4) rfl) ev_c rv_I0) (by congr 1; omega))) (x1 hc1 b1 (ev_is (ev_var (i := 4) rfl) (by congr 1; omega))) rv_I0)) ?_) (fun z => nomatch z) fun _ G2 e2 => ⟨_, rfl, eG'.trans e2⟩
          rw [a3, b3, decide_eq_false hwn, decide_eq_false (show ¬ p1.low ≤ p0.low by omega)]
          rfl
      · rintro σ' G' ⟨x3, rfl, eG'⟩
        exact ⟨_, _, _, rfl, eG'⟩
    · rintro σ' G ⟨x2, x3, x4, rfl, eG⟩
      exact s_ret ev_c fun G1 e2 => k.go (e1.trans (eG.trans e2))
def spRowLevers (C : Addr) : Sp := fun vs H Q _ => ∃ (A : WAd) (n : Int) (t0 : T) (rs : List (Row T)) (kvs : List (Key × V)), vs = [.ref A.a] ∧ WkAt C H A n rs kvs ∧ Rdg t0 rs n kvs [] ∧ rs.length ≤ 1000 ∧ RetL ((t0.levs.map fun (z : Nat) => (z : Int)).map V.int) H Q
abbrev s_row_levers : Stmt := topS 20
abbrev N_row_levers : List Str := ["walk", "lever"]
theorem sc_row_levers : FnScope N_row_levers ["walk"] (defScope s_row_levers) := ⟨rfl, rfl, rfl, by decide +kernel, rfl, by decide +kernel, by decide +kernel⟩

theorem ok_row_levers (F : Fun K "row_levers" "row_levers" s_row_levers f fd) (Z : WT K C) (T : Nm mg) : FnOk P w K mg base CX0 1 f fd ["walk"] (spRowLevers C) := by
  refine F.ok sc_row_levers (fun vs H Q E h => ?_) (fun cdv A' outer s H vs Q E hr h => ?_)
  · obtain ⟨A, n, t0, rs, kvs, rfl, _⟩ := h
    rfl
  · obtain ⟨A, n, t0, rs, kvs, rfl, W, R, hl, k⟩ := h
    have nd := sc_row_levers.nd
    refine ⟨_, (pss_one (ps_ret (pe_lc (own := [("lever", 1)]) rfl nd (pi_list (pe_fld (pv 0) rfl)) (blkOk_by (own := [("lever", 1)]) (N := N_row_levers) (sc := defScope s_row_levers) (by decide +kernel)) (fun _ _ _ _ _ => (pg_name (i := 1) nd rfl (Or.inl rfl))) (fun _ _ _ _ _ => (pts_one (pt_cmpR op_ge (pv 1) pe_int (nomark _)))) (fun _ _ _ _ _ => (pv 1))))), ?_⟩
    have hd : DpAll K (cut [] H) (rs.map fun r => .int r.lever) (nums (rs.map fun r => r.lever)) := by
      have := nums_dpa (K := K) (H := cut [] H) (rs.map fun r => r.lever)
      rwa [List.map_map] at this
    have h1 := edl_lcL (K := K) (S := []) (σ := start N_row_levers [V.ref A.a]) (vs := [1]) (j := 1) (t := tTest (tOp (rI0 fun i j => .bl (decide (j ≤ i))) (tVar 1) (tC (.int 0)))) (te := tVar 1)
      (fun d => match d with | .int i => decide (0 ≤ i) | _ => false) id Dom.nil (ev_levers Z W (ev_var (i := 0) rfl)) (sq_of W.hl) hd (by unfold nums; rw [List.length_map, List.length_map]; omega) (fun x => rfl)
      (fun d v S' H1 _ _ _ hm hd => by
        obtain ⟨i, hi, rfl⟩ := List.mem_map.mp hm
        rw [dp_int hd]
        exact et_test (ev_op (ev_var (i := 1) rfl) ev_c rv_I0))
      (fun d v S' H1 _ _ _ hm hd _ => ed_var (i := 1) rfl hd)
    rw [List.map_id] at h1
    have e : ((nums (rs.map fun r => r.lever)).filter fun d => match d with | .int i => decide (0 ≤ i) | _ => false) = nums (t0.levs.map fun (z : Nat) => (z : Int)) := by
      rw [← lever_levs R]
      unfold nums
      rw [List.filter_map]
      rfl
    rw [e] at h1
    exact s_retL (EvDL.ints h1) fun p H1 hp e1 h1 => k.go (Ex.refl H) hp e1 h1
theorem el_rowLevers {σ : L2.St} {H : Hp} {ta : TE} {A : WAd} {n : Int} {t0 : T} {rs : List (Row T)} {kvs : List (Key × V)} {E : XK} (W : WkAt C H A n rs kvs) (R : Rdg t0 rs n kvs []) (h : Ev ta σ H (.ref A.a)) (hl : rs.length ≤ 1000) :
    EvL (tCall (spRowLevers C) [] E (tCons ta tNil)) σ H ((t0.levs.map fun (z : Nat) => (z : Int)).map V.int) := fun H1 e Q q =>
  h H1 e _ fun H2 e2 => ⟨A, n, t0, rs, kvs, rfl, wk_mono W (e.trans e2), R, hl, fun p H3 hp e3 h3 => q p H3 (fresh_back e2 hp) (e2.trans e3) h3⟩
theorem ev_ordered {σ : L2.St} {H : Hp} {ta : TE} {A : WAd} {n : Int} {t0 : T} {rs : List (Row T)} {kvs : List (Key × V)} {E : XK} (W : WkAt C H A n rs kvs) (R : Rdg t0 rs n kvs []) (h : Ev ta σ H (.ref A.a)) (hl : rs.length ≤ 1000) (ho : t0.ord = true) :
    Ev (tCall (spOrdered C) [] E (tCons ta tNil)) σ H (.bl true) := fun H1 e Q q =>
  h H1 e _ fun H2 e2 => ⟨A, n, t0, rs, kvs, rfl, wk_mono W (e.trans e2), R, hl, ho, fun H3 e3 => q H3 (e2.trans e3)⟩
end
end Dl

set_option Elab.async false
set_option maxRecDepth 100000
set_option maxHeartbeats 4000000
set_option linter.all false
namespace Dl
open PySem L2 Evl Dt
/-- a tree as it may be: the levers 0, 1, .. each once, the parts by their least levers -/
structure Good (t0 : T) : Prop where
  form : t0.form = true
  ord : t0.ord = true
  perm : t0.levs.Perm (List.range t0.levs.length)
  few : t0.levs.length ≤ 200
  size : t0.size < t0.levs.length + 200
theorem Good.nd {t0 : T} (G : Good t0) : t0.levs.Nodup := G.perm.nodup_iff.mpr List.nodup_range
section
variable {P : Program} {w : World} {K : PySem.W.Frag} {mg : Str → Option Value} {base : Heap} {f C : Addr} {fd : FuncData} {τ : Type}
def spTree (K : PySem.W.Frag) (C : Addr) : Sp := fun vs H Q _ => ∃ (S : List Addr) (v : V) (t0 : T), vs = [v] ∧ Dom S H ∧ Dp K (cut S H) v t0.d ∧ Good t0 ∧
  ∀ (H' : Hp) (A : WAd) (n : Int) (rs : List (Row T)) (kvs : List (Key × V)), WkAt C H' A n rs kvs → Rdg t0 rs n kvs [] → Ex H H' → (∀ b ∈ A.all, H b = none) → Q (.ref A.a) H'
abbrev s_tree_walk : Stmt := topS 21
abbrev N_tree_walk : List Str := ["value", "walk"]
theorem sc_tree_walk : FnScope N_tree_walk ["value"] (defScope s_tree_walk) := ⟨rfl, rfl, rfl, by decide +kernel, rfl, by decide +kernel, by decide +kernel⟩

theorem ok_tree_walk (F : Fun K "tree_walk" "tree_walk" s_tree_walk f fd) (Z : WT K C) (T : Nm mg) (h_read_form : Has P w K mg base 4 "read_form" ["value"] (spReadForm K C)) (h_row_levers : Has P w K mg base 1 "row_levers" ["walk"] (spRowLevers C))
    (h_is_ordered : Has P w K mg base 3 "is_ordered" ["walk"] (spOrdered C)) : FnOk P w K mg base CX0 5 f fd ["value"] (spTree K C) := by
  refine F.ok sc_tree_walk (fun vs H Q E h => ?_) (fun cdv A' outer s H vs Q E hr h => ?_)
  · obtain ⟨S, v, t0, rfl, _⟩ := h
    rfl
  · obtain ⟨S, v, t0, rfl, D, hv, G, k⟩ := h
    have nd := sc_tree_walk.nd
    have hu64 := hr.units
    refine ⟨_, (pss_cons (ps_set (i := 1) nd rfl (Or.inl rfl) (pe_has h_read_form (hr.mono (by first | decide | omega)) (pa_cons (pv 0) pa_nil)))
  (pss_cons (ps_if (pt_cmpR op_isN (pv 1) pe_non (nomark _)) (pss_one ps_never) pss_nil)
  (pss_cons (ps_if (PW.pt (pw_or (pt_cmpR (op_neD hu64) (pe_callB cr_sortedI (by rfl) T.n_sorted (by decide +kernel) (pa_cons (pe_has h_row_levers (hr.mono (by first | decide | omega)) (pa_cons (pv 1) pa_nil)) pa_nil)) (pe_listRg rfl rfl T.n_list (prg_1 rfl T.n_range (pe_fld (pv 1) rfl))) (nomark _)) (pw_or1 (pt_not (pt_val (pe_has h_is_ordered (hr.mono (by first | decide | omega)) (pa_cons (pv 1) pa_nil))))))) (pss_one ps_never) pss_nil)
  (pss_one (ps_ret (pv 1)))))), ?_⟩
    refine ⟨_, rfl, S, v, t0, rfl, D, hv, G.form, G.nd, G.few, G.size, fun H1 A n rs kvs W R e1 new => ?_⟩
    have hrs := rdg_small R G.few G.size
    have hl : rs.length ≤ 1000 := by omega
    have hn := rows_many R
    refine q_when (b := false) (et_is (et_test (ev_op (ev_var (i := 1) rfl) ev_c rv_isN)) rfl) (fun z => nomatch z) fun _ H2 e2 => ?_
    have W2 := wk_mono W e2
    have v1 : ∀ {Hx : Hp}, Ev (tVar 1) [some v, some (.ref A.a)] Hx (.ref A.a) := fun {Hx} => ev_var rfl
    have hperm : ((List.range t0.levs.length).map fun (i : Nat) => (i : Int)).Perm (t0.levs.map fun (z : Nat) => (z : Int)) := (G.perm.map _).symm
    have hsort : ((List.range t0.levs.length).map fun (i : Nat) => (i : Int)).Pairwise (· ≤ ·) := by
      rw [List.pairwise_map]
      exact List.pairwise_lt_range.imp fun h => by omega
    refine q_when (b := false) (et_is (et_or (et_neD (K := K) (S := []) (ed_ofInts (el_sorted (el_rowLevers W2 R v1 hl) hperm hsort)) (ed_ofInts (el_rg (n := t0.levs.length) (by have := G.few; omega) (rg_1 (by rw [← hn]; exact ev_many Z W2 v1)))) (shaped_ints _) (shaped_ints _)) fun _ => et_not (et_B (ev_ordered W2 R v1 hl G.ord))) ?_) (fun z => nomatch z) fun _ H3 e3 => ?_
    · rw [eqv_ints, decide_eq_true rfl]
      rfl
    · exact s_ret v1 fun H4 e4 => k H4 A n rs kvs (wk_mono W2 (e3.trans e4)) R (e1.trans (e2.trans (e3.trans e4))) new
end
end Dl

set_option Elab.async false
set_option maxRecDepth 100000
set_option linter.all false
/-! lists of numbers as sums over their places -/
namespace Dl
def prodI (ns : List Int) : Int := ns.foldl (· * ·) 1
theorem foldl_mul (a : Int) : ∀ ns : List Int, ns.foldl (· * ·) a = a * prodI ns
  | [] => by unfold prodI; simp
  | n :: r => by
    unfold prodI
    rw [List.foldl_cons, List.foldl_cons, foldl_mul (a * n) r, foldl_mul (1 * n) r, Int.one_mul, Int.mul_assoc]
theorem prodI_nil : prodI [] = 1 := rfl
theorem prodI_cons (n : Int) (r : List Int) : prodI (n :: r) = n * prodI r := by
  show (r.foldl (· * ·) (1 * n)) = _
  rw [foldl_mul, Int.one_mul]
theorem prodI_snoc (r : List Int) (n : Int) : prodI (r ++ [n]) = prodI r * n := by
  unfold prodI
  rw [List.foldl_append]
  rfl
def addAt (m : List Int) (k : Nat) (x : Int) : List Int := m.modify k (· + x)
def addRow (m : List Int) (i : Nat) (x : Int) : List Int → List Int
  | [] => m
  | y :: r => addRow (addAt m i (x * y)) (i + 1) x r
def mulP (m : List Int) (i : Nat) (ys : List Int) : List Int → List Int
  | [] => m
  | x :: r => mulP (addRow m i x ys) (i + 1) ys r
def timesP (xs ys : List Int) : List Int := mulP (List.replicate (xs.length + ys.length - 1) 0) 0 ys xs
def plusP (xs ys : List Int) : List Int := if ys.length ≤ xs.length then addRow xs 0 1 ys else addRow ys 0 1 xs
theorem addAt_len (m : List Int) (k : Nat) (x : Int) : (addAt m k x).length = m.length := by unfold addAt; simp
theorem addRow_len (x : Int) : ∀ (ys m : List Int) (i : Nat), (addRow m i x ys).length = m.length
  | [], m, i => rfl
  | y :: r, m, i => by rw [addRow, addRow_len x r, addAt_len]
theorem mulP_len (ys : List Int) : ∀ (xs m : List Int) (i : Nat), (mulP m i ys xs).length = m.length
  | [], m, i => rfl
  | x :: r, m, i => by rw [mulP, mulP_len ys r, addRow_len]
theorem timesP_len (xs ys : List Int) : (timesP xs ys).length = xs.length + ys.length - 1 := by
  unfold timesP
  rw [mulP_len, List.length_replicate]
theorem plusP_len (xs ys : List Int) : (plusP xs ys).length = max xs.length ys.length := by
  unfold plusP
  split
  · rw [addRow_len]; omega
  · rw [addRow_len]; omega
theorem addRow_snoc (x y : Int) : ∀ (ys m : List Int) (i : Nat), addRow m i x (ys ++ [y]) = addAt (addRow m i x ys) (i + ys.length) (x * y)
  | [], m, i => rfl
  | z :: r, m, i => by
    rw [List.cons_append, addRow, addRow, addRow_snoc x y r, List.length_cons]
    congr 1
    omega
theorem mulP_snoc (ys : List Int) (x : Int) : ∀ (xs m : List Int) (i : Nat), mulP m i ys (xs ++ [x]) = addRow (mulP m i ys xs) (i + xs.length) x ys
  | [], m, i => rfl
  | z :: r, m, i => by
    rw [List.cons_append, mulP, mulP, mulP_snoc ys x r, List.length_cons]
    congr 1
    omega
/-- the sum of the numbers, each times the weight of its place -/
def pr (φ : Nat → Int) : List Int → Nat → Int
  | [], _ => 0
  | x :: r, i => x * φ i + pr φ r (i + 1)
def P0 (φ : Nat → Int) (p : List Int) : Int := pr φ p 0
theorem pr_addAt (φ : Nat → Int) (x : Int) : ∀ (m : List Int) (k i : Nat), k < m.length → pr φ (addAt m k x) i = pr φ m i + x * φ (i + k)
  | [], k, i, h => absurd h (Nat.not_lt_zero _)
  | y :: r, 0, i, _ => by
    show (y + x) * φ i + pr φ r (i + 1) = y * φ i + pr φ r (i + 1) + x * φ i
    rw [Int.add_mul]
    omega
  | y :: r, k + 1, i, h => by
    have h1 := pr_addAt φ x r k (i + 1) (by simpa using h)
    show y * φ i + pr φ (addAt r k x) (i + 1) = y * φ i + pr φ r (i + 1) + x * φ (i + (k + 1))
    rw [h1, show i + 1 + k = i + (k + 1) by omega]
    omega
theorem pr_addRow (φ : Nat → Int) (x : Int) : ∀ (ys m : List Int) (i : Nat), i + ys.length ≤ m.length → P0 φ (addRow m i x ys) = P0 φ m + x * pr φ ys i
  | [], m, i, _ => by
    show P0 φ m = P0 φ m + x * 0
    rw [Int.mul_zero, Int.add_zero]
  | y :: r, m, i, h => by
    rw [List.length_cons] at h
    rw [addRow, pr_addRow φ x r _ (i + 1) (by rw [addAt_len]; omega)]
    unfold P0
    rw [pr_addAt φ _ m i 0 (by omega), pr, Nat.zero_add, Int.mul_add, Int.mul_assoc]
    omega
theorem pr_mulP (φ : Nat → Int) (ys : List Int) : ∀ (xs m : List Int) (i : Nat), i + xs.length + ys.length ≤ m.length + 1 → P0 φ (mulP m i ys xs) = P0 φ m + pr (fun k => pr φ ys k) xs i
  | [], m, i, _ => by
    show P0 φ m = P0 φ m + 0
    rw [Int.add_zero]
  | x :: r, m, i, h => by
    rw [List.length_cons] at h
    rw [mulP, pr_mulP φ ys r _ (i + 1) (by rw [addRow_len]; omega), pr_addRow φ x ys m i (by omega), pr]
    omega
theorem pr_zero (φ : Nat → Int) : ∀ n i : Nat, pr φ (List.replicate n 0) i = 0
  | 0, _ => rfl
  | n + 1, i => by rw [List.replicate_succ, pr, pr_zero φ n, Int.zero_mul, Int.add_zero]
theorem P0_times (φ : Nat → Int) {xs ys : List Int} (hx : 1 ≤ xs.length) (hy : 1 ≤ ys.length) : P0 φ (timesP xs ys) = P0 (fun k => pr φ ys k) xs := by
  unfold timesP
  rw [pr_mulP φ ys xs _ 0 (by rw [List.length_replicate]; omega)]
  unfold P0
  rw [pr_zero, Int.zero_add]
theorem P0_plus (φ : Nat → Int) (xs ys : List Int) : P0 φ (plusP xs ys) = P0 φ xs + P0 φ ys := by
  unfold plusP
  split
  · rw [pr_addRow φ 1 ys xs 0 (by omega), Int.one_mul]
    rfl
  · rw [pr_addRow φ 1 xs ys 0 (by omega), Int.one_mul]
    show P0 φ ys + P0 φ xs = _
    omega
theorem pr_shift (φ : Nat → Int) : ∀ (p : List Int) (i k : Nat), pr φ p (i + k) = pr (fun j => φ (j + k)) p i
  | [], _, _ => rfl
  | x :: r, i, k => by
    have h := pr_shift φ r (i + 1) k
    rw [pr, pr, ← h, show i + 1 + k = i + k + 1 by omega]
theorem pr_sum : ∀ (p : List Int) (i : Nat), pr (fun _ => 1) p i = p.sum
  | [], _ => rfl
  | x :: r, i => by rw [pr, pr_sum r, Int.mul_one, List.sum_cons]
theorem P0_one (p : List Int) : P0 (fun _ => 1) p = p.sum := pr_sum p 0
theorem pr_scale (φ : Nat → Int) (c : Int) : ∀ (p : List Int) (i : Nat), pr φ (p.map fun x => x * c) i = pr φ p i * c
  | [], _ => by show (0 : Int) = 0 * c; rw [Int.zero_mul]
  | x :: r, i => by
    rw [List.map_cons, pr, pr, pr_scale φ c r, Int.add_mul, Int.mul_assoc, Int.mul_assoc, Int.mul_comm c]
end Dl

set_option Elab.async false
set_option maxRecDepth 100000
set_option maxHeartbeats 4000000
set_option linter.all false
/-! numbers: products, lists times and plus lists -/
namespace Dl
open PySem L2 Evl Dt
section
variable {K : PySem.W.Frag} {σ : L2.St} {H : Hp} {ta tb te : TE} {D : Ends}
theorem s_augN {l : Addr} {ns : List Int} {k : Nat} {x : Int} (hl : H l = some (.lst (ns.map V.int))) (ho : Ev ta σ H (.ref l)) (hi : Ev tb σ H (.int (k : Int))) (he : Ev te σ H (.int x)) (hk : k < ns.length)
    (kk : ∀ H1, Ex H H1 → D.nx σ (upd H1 l (.lst ((addAt ns k x).map V.int)))) : tAugS ta tb te (rIxN K) (ipI fun i j => i + j) rSetL D σ H :=
  ho H (Ex.refl H) _ fun H1 e1 => hi H1 e1 _ fun H2 e2 => ⟨l, ns.map V.int, k, .int ns[k], rfl, rfl, sq_of (e2 _ _ (e1 _ _ hl)), by rw [List.getElem?_map, List.getElem?_eq_getElem hk]; rfl,
    he H2 (e1.trans e2) _ fun H3 e3 => ⟨ns[k], x, rfl, rfl, l, ns.map V.int, k, k, rfl, rfl, e3 _ _ (e2 _ _ (e1 _ _ hl)), ixN_nat (by rw [List.length_map]; exact hk), by
      have e : (ns.map V.int).set k (.int (ns[k] + x)) = (addAt ns k x).map V.int := by
        refine List.ext_getElem? fun j => ?_
        unfold addAt
        rw [List.getElem?_map, List.getElem?_set, get_modify, List.length_map, List.getElem?_map]
        by_cases h : k = j
        · subst h
          rw [if_pos rfl, if_pos hk, List.getElem?_eq_getElem hk, Option.map_some, if_pos rfl]
          rfl
        · rw [if_neg h]
          cases ns[j]? with
          | none => rfl
          | some y =>
            rw [Option.map_some, Option.map_some, if_neg (fun z => h z.symm)]
            rfl
      rw [e]
      exact kk H3 (e1.trans (e2.trans e3))⟩⟩
end
/-- below 2 ^ 64 -/
def Sm (x : Int) : Prop := -(2 ^ 64) < x ∧ x < 2 ^ 64
/-- a list of ints at v -/
def LI (K : PySem.W.Frag) (H : Hp) (v : V) (ns : List Int) : Prop := ∃ a, v = .ref a ∧ SqL K H a (ns.map V.int)
theorem LI.mono {K : PySem.W.Frag} {H H' : Hp} {v : V} {ns : List Int} (e : Ex H H') (h : LI K H v ns) : LI K H' v ns := let ⟨a, h1, h2⟩ := h; ⟨a, h1, ex_l e h2⟩
section
variable {P : Program} {w : World} {K : PySem.W.Frag} {mg : Str → Option Value} {base : Heap} {f C : Addr} {fd : FuncData} {τ : Type}
def spProd (K : PySem.W.Frag) : Sp := fun vs H Q _ => ∃ v ns, vs = [v] ∧ LI K H v ns ∧ (∀ n ∈ ns, Sm n) ∧ RetV (.int (prodI ns)) H Q
abbrev s_product_of : Stmt := topS 24
abbrev N_product_of : List Str := ["numbers", "result", "number"]
theorem sc_product_of : FnScope N_product_of ["numbers"] (defScope s_product_of) := ⟨rfl, rfl, rfl, by decide +kernel, rfl, by decide +kernel, by decide +kernel⟩

theorem ok_product_of (F : Fun K "product_of" "product_of" s_product_of f fd) : FnOk P w K mg base CX0 1 f fd ["numbers"] (spProd K) := by
  refine F.ok sc_product_of (fun vs H Q E h => ?_) (fun cdv A' outer s H vs Q E hr h => ?_)
  · obtain ⟨v, ns, rfl, _⟩ := h
    rfl
  · obtain ⟨v, ns, rfl, ⟨a, rfl, hl⟩, hsm, k⟩ := h
    have nd := sc_product_of.nd
    refine ⟨_, (pss_cons (ps_set (i := 1) nd rfl (Or.inl rfl) pe_int)
  (pss_cons (ps_for PassesOwn.never rfl (pi_list (pv 0)) (pg_name (i := 2) nd rfl (Or.inl rfl)) (pss_one (ps_set (i := 1) nd rfl (Or.inl rfl) (pe_op op_mul (pv 1) (pv 2)))))
  (pss_one (ps_ret (pv 1))))), ?_⟩
    refine q_asg ev_c fun H1 e1 => ?_
    refine q_forLn (j := 2) (ev_var (i := 0) rfl) (ex_l e1 hl) (fun i σ' G => ∃ x2, σ' = [some (.ref a), some (.int (prodI (ns.take i))), x2] ∧ Ex H G) (fun H2 e2 => ⟨none, rfl, e1.trans e2⟩) (fun i σ' G _ ⟨_, _, e⟩ => ex_l e hl) ?_ ?_
    · rintro i x σ' G hx ⟨x2, rfl, eG⟩
      rw [List.getElem?_map] at hx
      obtain ⟨n, hn, rfl⟩ := Option.map_eq_some_iff.mp hx
      refine s_asg (ev_op (ev_var (i := 1) rfl) (ev_var (i := 2) rfl) (rv_I (.inr (hsm n (List.mem_of_getElem? hn))))) fun G2 e2 => ⟨some (.int n), ?_, eG.trans e2⟩
      rw [List.take_succ, hn, Option.toList_some, prodI_snoc]
      rfl
    · rintro σ' G ⟨x2, rfl, eG⟩
      rw [List.length_map, List.take_length]
      exact s_ret (ev_var (i := 1) rfl) fun G2 e2 => k.go (eG.trans e2)
theorem ev_prod {σ : L2.St} {H : Hp} {ta : TE} {ns : List Int} {E : XK} (h : EvL ta σ H (ns.map V.int)) (hsm : ∀ n ∈ ns, Sm n) : Ev (tCall (spProd K) [] E (tCons ta tNil)) σ H (.int (prodI ns)) := fun H1 e Q q =>
  h H1 e _ fun p H2 hp e2 h2 => ⟨.ref p, ns, rfl, ⟨p, rfl, sq_of h2⟩, hsm, fun H3 e3 => q H3 (e2.trans e3)⟩
theorem ev_prodV {σ : L2.St} {H : Hp} {ta : TE} {ns : List Int} {v : V} {E : XK} (h : Ev ta σ H v) (hl : LI K H v ns) (hsm : ∀ n ∈ ns, Sm n) : Ev (tCall (spProd K) [] E (tCons ta tNil)) σ H (.int (prodI ns)) := fun H1 e Q q =>
  h H1 e _ fun H2 e2 => ⟨v, ns, rfl, hl.mono (e.trans e2), hsm, fun H3 e3 => q H3 (e2.trans e3)⟩
def spTimes (K : PySem.W.Frag) : Sp := fun vs H Q _ => ∃ v u xs ys, vs = [v, u] ∧ LI K H v xs ∧ LI K H u ys ∧ 1 ≤ xs.length ∧ 1 ≤ ys.length ∧ xs.length + ys.length ≤ 10000 ∧ (∀ x ∈ xs, Sm x) ∧ RetL ((timesP xs ys).map V.int) H Q
abbrev s_times : Stmt := topS 27
abbrev N_times : List Str := ["one", "other", "made", "at", "number", "beside", "factor"]
theorem sc_times : FnScope N_times ["one", "other"] (defScope s_times) := ⟨rfl, rfl, rfl, by decide +kernel, rfl, by decide +kernel, by decide +kernel⟩

theorem ok_times (F : Fun K "times" "times" s_times f fd) (T : Nm mg) : FnOk P w K mg base CX0 1 f fd ["one", "other"] (spTimes K) := by
  refine F.ok sc_times (fun vs H Q E h => ?_) (fun cdv A' outer s H vs Q E hr h => ?_)
  · obtain ⟨v, u, xs, ys, rfl, _⟩ := h
    rfl
  · obtain ⟨v, u, xs, ys, rfl, ⟨a, rfl, hx⟩, ⟨b, rfl, hy⟩, h1, h2, h3, hsm, k⟩ := h
    have nd := sc_times.nd
    refine ⟨_, (pss_cons (ps_set (i := 2) nd rfl (Or.inl rfl) (pe_op op_rep (pe_lst (pa_cons pe_int pa_nil)) (pe_op op_sub (pe_op op_add (pe_callB call_len_seq (by rfl) T.n_len (by decide +kernel) (pa_cons (pv 0) pa_nil)) (pe_callB call_len_seq (by rfl) T.n_len (by decide +kernel) (pa_cons (pv 1) pa_nil))) pe_int)))
  (pss_cons (ps_for PassesOwn.never rfl (pi_enum (by rfl) T.n_enumerate (pa_cons (pv 0) pa_nil)) (pg_tup rfl (pgs_cons (pg_name (i := 3) nd rfl (Or.inl rfl)) (pgs_cons (pg_name (i := 4) nd rfl (Or.inl rfl)) pgs_nil))) (pss_one (ps_for PassesOwn.never rfl (pi_enum (by rfl) T.n_enumerate (pa_cons (pv 1) pa_nil)) (pg_tup rfl (pgs_cons (pg_name (i := 5) nd rfl (Or.inl rfl)) (pgs_cons (pg_name (i := 6) nd rfl (Or.inl rfl)) pgs_nil))) (pss_one (ps_augS (pv 2) (pe_op op_add (pv 3) (pv 5)) get_listN (pe_op op_mul (pv 4) (pv 6)) ip_add set_list)))))
  (pss_one (ps_ret (pv 2))))), ?_⟩
    have l1 : ∀ H1, Ex H H1 → Ev (tCB (rLenS K) (tCons (tVar 0) tNil)) (start N_times [.ref a, .ref b]) H1 (.int (xs.length : Int)) := fun H1 e => by
      have := ev_len (K := K) (ev_var (σ := start N_times [.ref a, .ref b]) (i := 0) (H := H1) rfl) (ex_l e hx)
      rwa [List.length_map] at this
    have l2 : ∀ H1, Ex H H1 → Ev (tCB (rLenS K) (tCons (tVar 1) tNil)) (start N_times [.ref a, .ref b]) H1 (.int (ys.length : Int)) := fun H1 e => by
      have := ev_len (K := K) (ev_var (σ := start N_times [.ref a, .ref b]) (i := 1) (H := H1) rfl) (ex_l e hy)
      rwa [List.length_map] at this
    refine q_asgL (el_rep (x := .int 0) (n := xs.length + ys.length - 1) (el_lst (ea_cons ev_c ea_nil) (by decide)) (fun H1 e => ev_is (ev_op (ev_op (l1 H1 e) (l2 H1 e) rv_I0) ev_c rv_I0) (by congr 1; omega)) (by omega)) fun m H1 hm e1 hm1 => ?_
    let m0 : List Int := List.replicate (xs.length + ys.length - 1) 0
    have ez : List.replicate (xs.length + ys.length - 1) (V.int 0) = m0.map V.int := by rw [List.map_replicate]
    rw [ez] at hm1
    refine q_forEn (K := K) (a := 3) (b := 4) (ev_var (i := 0) rfl) (ex_l e1 hx) (fun i σ' G => ∃ x3 x4 x5 x6, σ' = [some (.ref a), some (.ref b), some (.ref m), x3, x4, x5, x6] ∧ Ex H G ∧ G m = some (.lst ((mulP m0 0 ys (xs.take i)).map V.int)))
      (fun H2 e2 => ⟨none, none, none, none, rfl, e1.trans e2, e2 _ _ hm1⟩) (fun i σ' G _ ⟨_, _, _, _, _, e, _⟩ => ex_l e hx) ?_ ?_
    · rintro i x σ' G hxi ⟨x3, x4, x5, x6, rfl, eG, hG⟩ G1 eG1
      rw [List.getElem?_map] at hxi
      obtain ⟨n, hn, rfl⟩ := Option.map_eq_some_iff.mp hxi
      have hi := (List.getElem?_eq_some_iff.mp hn).1
      have hG1 := eG1 _ _ hG
      have eHG1 := eG.trans eG1
      show tFor _ _ _ _ [some (.ref a), some (.ref b), some (.ref m), some (.int (i : Int)), some (.int n), x5, x6] G1
      refine s_forEn (K := K) (a := 5) (b := 6) (ev_var (i := 1) rfl) (ex_l eHG1 hy) (fun j σ' G => ∃ x5 x6, σ' = [some (.ref a), some (.ref b), some (.ref m), some (.int (i : Int)), some (.int n), x5, x6] ∧ Ex H G ∧ G m = some (.lst ((addRow (mulP m0 0 ys (xs.take i)) i n (ys.take j)).map V.int)))
        (fun H2 e2 => ⟨x5, x6, rfl, eHG1.trans e2, e2 _ _ hG1⟩) (fun j σ' G _ ⟨_, _, _, e, _⟩ => ex_l e hy) ?_ ?_
      · rintro j y σ' G hyj ⟨x5, x6, rfl, eG, hG⟩ G2 eG2
        rw [List.getElem?_map] at hyj
        obtain ⟨c, hc, rfl⟩ := Option.map_eq_some_iff.mp hyj
        have hj := (List.getElem?_eq_some_iff.mp hc).1
        show tAugS _ _ _ _ _ _ _ [some (.ref a), some (.ref b), some (.ref m), some (.int (i : Int)), some (.int n), some (.int (j : Int)), some (.int c)] G2
        refine s_augN (k := i + j) (x := n * c) (eG2 _ _ hG) (ev_var (i := 2) rfl) (ev_is (ev_op (ev_var (i := 3) rfl) (ev_var (i := 5) rfl) rv_I0) (by congr 1)) (ev_op (ev_var (i := 4) rfl) (ev_var (i := 6) rfl) (rv_I (.inl (hsm n (List.mem_of_getElem? hn))))) ?_ fun G3 e3 => ⟨_, _, rfl, Ex.mut (eG.trans (eG2.trans e3)) hm, ?_⟩
        · rw [addRow_len, mulP_len]
          show i + j < (List.replicate (xs.length + ys.length - 1) (0 : Int)).length
          rw [List.length_replicate]
          omega
        · rw [upd_same, List.take_succ, hc, Option.toList_some, addRow_snoc, List.length_take, Nat.min_eq_left (by omega)]
      · rintro σ' G ⟨x5, x6, rfl, eG, hG⟩
        refine ⟨_, _, _, _, rfl, eG, ?_⟩
        rw [List.length_map, List.take_length] at hG
        rw [hG, List.take_succ, hn, Option.toList_some, mulP_snoc, List.length_take, Nat.min_eq_left (by omega), Nat.zero_add]
    · rintro σ' G ⟨x3, x4, x5, x6, rfl, eG, hG⟩
      rw [List.length_map, List.take_length] at hG
      exact s_ret (ev_var (i := 2) rfl) fun G2 e2 => k m G2 hm (eG.trans e2) (e2 _ _ hG)
def spPlus (K : PySem.W.Frag) : Sp := fun vs H Q _ => ∃ v u xs ys, vs = [v, u] ∧ LI K H v xs ∧ LI K H u ys ∧ xs.length + ys.length ≤ 10000 ∧ RetL ((plusP xs ys).map V.int) H Q
abbrev s_plus : Stmt := topS 28
abbrev N_plus : List Str := ["one", "other", "longer", "shorter", "made", "at", "number"]
theorem sc_plus : FnScope N_plus ["one", "other"] (defScope s_plus) := ⟨rfl, rfl, rfl, by decide +kernel, rfl, by decide +kernel, by decide +kernel⟩

theorem ok_plus (F : Fun K "plus" "plus" s_plus f fd) (T : Nm mg) : FnOk P w K mg base CX0 1 f fd ["one", "other"] (spPlus K) := by
  refine F.ok sc_plus (fun vs H Q E h => ?_) (fun cdv A' outer s H vs Q E hr h => ?_)
  · obtain ⟨v, u, xs, ys, rfl, _⟩ := h
    rfl
  · obtain ⟨v, u, xs, ys, rfl, ⟨a, rfl, hx⟩, ⟨b, rfl, hy⟩, h3, k⟩ := h
    have nd := sc_plus.nd
    refine ⟨_, (pss_cons (ps_asg (pe_ifExp (pt_cmpR op_ge (pe_callB call_len_seq (by rfl) T.n_len (by decide +kernel) (pa_cons (pv 0) pa_nil)) (pe_callB call_len_seq (by rfl) T.n_len (by decide +kernel) (pa_cons (pv 1) pa_nil)) (nomark _)) (pe_tup (pa_cons (pv 0) (pa_cons (pv 1) pa_nil))) (pe_tup (pa_cons (pv 1) (pa_cons (pv 0) pa_nil)))) (pg_tup rfl (pgs_cons (pg_name (i := 2) nd rfl (Or.inl rfl)) (pgs_cons (pg_name (i := 3) nd rfl (Or.inl rfl)) pgs_nil))))
  (pss_cons (ps_set (i := 4) nd rfl (Or.inl rfl) (pe_callTy call_list_of (by rfl) T.n_list (by decide +kernel) (pa_cons (pv 2) pa_nil)))
  (pss_cons (ps_for PassesOwn.never rfl (pi_enum (by rfl) T.n_enumerate (pa_cons (pv 3) pa_nil)) (pg_tup rfl (pgs_cons (pg_name (i := 5) nd rfl (Or.inl rfl)) (pgs_cons (pg_name (i := 6) nd rfl (Or.inl rfl)) pgs_nil))) (pss_one (ps_augS (pv 4) (pv 5) get_listN (pv 6) ip_add set_list)))
  (pss_one (ps_ret (pv 4)))))), ?_⟩
    have l1 : ∀ H1, Ex H H1 → Ev (tCB (rLenS K) (tCons (tVar 0) tNil)) (start N_plus [.ref a, .ref b]) H1 (.int (xs.length : Int)) := fun H1 e => by
      have := ev_len (K := K) (ev_var (σ := start N_plus [.ref a, .ref b]) (i := 0) (H := H1) rfl) (ex_l e hx)
      rwa [List.length_map] at this
    have l2 : ∀ H1, Ex H H1 → Ev (tCB (rLenS K) (tCons (tVar 1) tNil)) (start N_plus [.ref a, .ref b]) H1 (.int (ys.length : Int)) := fun H1 e => by
      have := ev_len (K := K) (ev_var (σ := start N_plus [.ref a, .ref b]) (i := 1) (H := H1) rfl) (ex_l e hy)
      rwa [List.length_map] at this
    -- from the two, longer first
    have go : ∀ (c d : Addr) (zs ws : List Int) (G : Hp), Ex H G → SqL K H c (zs.map V.int) → SqL K H d (ws.map V.int) → ws.length ≤ zs.length → plusP xs ys = addRow zs 0 1 ws → zs.length + ws.length ≤ 10000 →
        tSeq (tAsg (tCB (rListS K) (tCons (tVar 2) tNil)) (gName 4)) (tSeq (tFor (iEnum K (tCons (tVar 3) tNil)) (gTup K 2 (gCons (gName 5) (gCons (gName 6) gNil))) (tAugS (tVar 4) (tVar 5) (tVar 6) (rIxN K) (ipI fun i j => i + j) rSetL)) (tRet (tVar 4)))
          { nx := fun _ H' => Q .non H', rt := Q } [some (.ref a), some (.ref b), some (.ref c), some (.ref d), none, none, none] G := fun c d zs ws G eG hz hw hle hpl h10 => by
      refine q_asgL (el_list (ev_var (i := 2) rfl) (ex_l eG hz)) fun m H1 hm e1 hm1 => ?_
      have hmH := fresh_back eG hm
      refine q_forEn (K := K) (a := 5) (b := 6) (ev_var (i := 3) rfl) (ex_l (eG.trans e1) hw) (fun i σ' G => ∃ x5 x6, σ' = [some (.ref a), some (.ref b), some (.ref c), some (.ref d), some (.ref m), x5, x6] ∧ Ex H G ∧ G m = some (.lst ((addRow zs 0 1 (ws.take i)).map V.int)))
        (fun H2 e2 => ⟨none, none, rfl, eG.trans (e1.trans e2), e2 _ _ hm1⟩) (fun i σ' G _ ⟨_, _, _, e, _⟩ => ex_l e hw) ?_ ?_
      · rintro i x σ' G hxi ⟨x5, x6, rfl, eG, hG⟩ G1 eG1
        rw [List.getElem?_map] at hxi
        obtain ⟨n, hn, rfl⟩ := Option.map_eq_some_iff.mp hxi
        have hi := (List.getElem?_eq_some_iff.mp hn).1
        show tAugS _ _ _ _ _ _ _ [some (.ref a), some (.ref b), some (.ref c), some (.ref d), some (.ref m), some (.int (i : Int)), some (.int n)] G1
        refine s_augN (k := i) (x := n) (eG1 _ _ hG) (ev_var (i := 4) rfl) (ev_var (i := 5) rfl) (ev_var (i := 6) rfl) (by rw [addRow_len]; omega) fun G3 e3 => ⟨_, _, rfl, Ex.mut (eG.trans (eG1.trans e3)) hmH, ?_⟩
        rw [upd_same, List.take_succ, hn, Option.toList_some, addRow_snoc, List.length_take, Nat.min_eq_left (by omega), Nat.zero_add, Int.one_mul]
      · rintro σ' G ⟨x5, x6, rfl, eG, hG⟩
        rw [List.length_map, List.take_length, ← hpl] at hG
        exact s_ret (ev_var (i := 4) rfl) fun G2 e2 => k m G2 hmH (eG.trans e2) (e2 _ _ hG)
    by_cases hle : ys.length ≤ xs.length
    · have ht : EvT (tTest (tOp (rI0 fun i j => .bl (decide (j ≤ i))) (tCB (rLenS K) (tCons (tVar 0) tNil)) (tCB (rLenS K) (tCons (tVar 1) tNil)))) (start N_plus [.ref a, .ref b]) H true := et_is (et_test (ev_op (l1 H (Ex.refl H)) (l2 H (Ex.refl H)) rv_I0)) (decide_eq_true (by omega))
      refine ht H (Ex.refl H) _ fun H1 e1 => ?_
      rw [if_pos rfl]
      show tTup (tCons (tVar 0) (tCons (tVar 1) tNil)) (start N_plus [.ref a, .ref b]) H1 _
      refine (eu_tup (σ := start N_plus [.ref a, .ref b]) (ea_cons (ev_var (i := 0) rfl) (ea_cons (ev_var (i := 1) rfl) ea_nil)) (by show 2 ≤ 100000; decide)) H1 (Ex.refl H1) _ fun p H2 hp e2 h2 => ⟨p, _, rfl, st_of h2, rfl, .ref a, [.ref b], rfl, .ref b, [], rfl, rfl, ?_⟩
      exact go a b xs ys H2 (e1.trans e2) hx hy hle (if_pos hle) h3
    · have ht : EvT (tTest (tOp (rI0 fun i j => .bl (decide (j ≤ i))) (tCB (rLenS K) (tCons (tVar 0) tNil)) (tCB (rLenS K) (tCons (tVar 1) tNil)))) (start N_plus [.ref a, .ref b]) H false := et_is (et_test (ev_op (l1 H (Ex.refl H)) (l2 H (Ex.refl H)) rv_I0)) (decide_eq_false (by omega))
      refine ht H (Ex.refl H) _ fun H1 e1 => ?_
      rw [if_neg Bool.false_ne_true]
      show tTup (tCons (tVar 1) (tCons (tVar 0) tNil)) (start N_plus [.ref a, .ref b]) H1 _
      refine (eu_tup (σ := start N_plus [.ref a, .ref b]) (ea_cons (ev_var (i := 1) rfl) (ea_cons (ev_var (i := 0) rfl) ea_nil)) (by show 2 ≤ 100000; decide)) H1 (Ex.refl H1) _ fun p H2 hp e2 h2 => ⟨p, _, rfl, st_of h2, rfl, .ref b, [.ref a], rfl, .ref a, [], rfl, rfl, ?_⟩
      exact go b a ys xs H2 (e1.trans e2) hy hx (by omega) (if_neg hle) (by omega)
end
end Dl

set_option Elab.async false
set_option maxRecDepth 100000
set_option linter.all false
/-! the numbers of a knot from those of its parts -/
namespace Dl
def Nn (p : List Int) : Prop := ∀ x ∈ p, 0 ≤ x
theorem Nn.cons {x : Int} {p : List Int} (h : Nn (x :: p)) : 0 ≤ x ∧ Nn p := ⟨h x List.mem_cons_self, fun y hy => h y (List.mem_cons_of_mem _ hy)⟩
theorem Nn.sum : ∀ {p : List Int}, Nn p → 0 ≤ p.sum
  | [], _ => by simp
  | x :: r, h => by
    have h1 := h.cons
    have h2 := Nn.sum h1.2
    rw [List.sum_cons]
    omega
theorem Nn.le_sum : ∀ {p : List Int}, Nn p → ∀ x ∈ p, x ≤ p.sum
  | y :: r, h, x, hx => by
    have h1 := h.cons
    rw [List.sum_cons]
    rcases List.mem_cons.mp hx with e | e
    · have := h1.2.sum
      omega
    · have := Nn.le_sum h1.2 x e
      omega
theorem addAt_nn {m : List Int} (h : Nn m) {k : Nat} {x : Int} (hx : 0 ≤ x) : Nn (addAt m k x) := fun y hy => by
  obtain ⟨i, hi⟩ := List.mem_iff_getElem?.mp hy
  unfold addAt at hi
  rw [List.getElem?_modify] at hi
  cases hm : m[i]? with
  | none => rw [hm] at hi; simp at hi
  | some z =>
    have hz := h z (List.mem_of_getElem? hm)
    rw [hm] at hi
    simp at hi
    split at hi <;> omega
theorem addRow_nn {x : Int} (hx : 0 ≤ x) : ∀ {ys m : List Int} {i : Nat}, Nn m → Nn ys → Nn (addRow m i x ys)
  | [], _, _, h, _ => h
  | y :: r, m, i, h, hy => by rw [addRow]; exact addRow_nn hx (addAt_nn h (Int.mul_nonneg hx hy.cons.1)) hy.cons.2
theorem mulP_nn {ys : List Int} (hy : Nn ys) : ∀ {xs m : List Int} {i : Nat}, Nn m → Nn xs → Nn (mulP m i ys xs)
  | [], _, _, h, _ => h
  | x :: r, m, i, h, hx => by rw [mulP]; exact mulP_nn hy (addRow_nn hx.cons.1 h hy) hx.cons.2
theorem timesP_nn {xs ys : List Int} (hx : Nn xs) (hy : Nn ys) : Nn (timesP xs ys) := mulP_nn hy (fun x h => by rw [List.eq_of_mem_replicate h]; exact Int.le_refl _) hx
theorem plusP_nn {xs ys : List Int} (hx : Nn xs) (hy : Nn ys) : Nn (plusP xs ys) := by
  unfold plusP
  split
  · exact addRow_nn (by decide) hx hy
  · exact addRow_nn (by decide) hy hx
theorem pr_const (c : Int) : ∀ (p : List Int) (i : Nat), pr (fun _ => c) p i = p.sum * c
  | [], _ => by show (0 : Int) = _; simp
  | x :: r, i => by rw [pr, pr_const c r, List.sum_cons, Int.add_mul]
theorem timesP_sum {xs ys : List Int} (hx : 1 ≤ xs.length) (hy : 1 ≤ ys.length) : (timesP xs ys).sum = xs.sum * ys.sum := by
  rw [← P0_one, P0_times _ hx hy]
  have : (fun k => pr (fun _ => 1) ys k) = fun _ => ys.sum := by funext k; exact pr_sum ys k
  rw [this]
  exact pr_const _ xs 0
theorem plusP_sum (xs ys : List Int) : (plusP xs ys).sum = xs.sum + ys.sum := by rw [← P0_one, P0_plus, P0_one, P0_one]
/-- numbers: some, none below 0, not all 0 -/
structure Pz (p : List Int) : Prop where
  ne : 1 ≤ p.length
  nn : Nn p
  pos : 1 ≤ p.sum
theorem pz_one : Pz [1] := ⟨by decide, fun x h => by rw [List.mem_singleton.mp h]; decide, by decide⟩
theorem mul_pos1 {a b : Int} (ha : 1 ≤ a) (hb : 1 ≤ b) : 1 ≤ a * b := by
  have := Int.mul_pos (show 0 < a by omega) (show 0 < b by omega)
  omega
theorem timesP_pz {xs ys : List Int} (hx : Pz xs) (hy : Pz ys) : Pz (timesP xs ys) :=
  ⟨by have := hx.ne; have := hy.ne; rw [timesP_len]; omega, timesP_nn hx.nn hy.nn, by rw [timesP_sum hx.ne hy.ne]; exact mul_pos1 hx.pos hy.pos⟩
def timesAll (ss : List (List Int)) : List Int := ss.foldl timesP [1]
theorem timesAll_snoc (ss : List (List Int)) (s : List Int) : timesAll (ss ++ [s]) = timesP (timesAll ss) s := by unfold timesAll; rw [List.foldl_append]; rfl
theorem foldl_pz : ∀ {ss : List (List Int)} {m : List Int}, Pz m → (∀ p ∈ ss, Pz p) → Pz (ss.foldl timesP m) ∧ (ss.foldl timesP m).sum = m.sum * prodI (ss.map List.sum) ∧ (ss.foldl timesP m).length + ss.length = m.length + (ss.map List.length).sum
  | [], m, h, _ => ⟨h, by show m.sum = m.sum * 1; rw [Int.mul_one], rfl⟩
  | s :: r, m, h, hs => by
    have h1 := hs s List.mem_cons_self
    obtain ⟨a, b, c⟩ := foldl_pz (timesP_pz h h1) fun p hp => hs p (List.mem_cons_of_mem _ hp)
    refine ⟨a, ?_, ?_⟩
    · rw [List.foldl_cons, b, timesP_sum h.ne h1.ne, List.map_cons, prodI_cons, Int.mul_assoc]
    · have := h1.ne
      have := h.ne
      rw [List.foldl_cons, List.length_cons, List.map_cons, List.sum_cons]
      rw [timesP_len] at c
      omega
theorem timesAll_pz {ss : List (List Int)} (h : ∀ p ∈ ss, Pz p) : Pz (timesAll ss) := (foldl_pz pz_one h).1
theorem timesAll_sum {ss : List (List Int)} (h : ∀ p ∈ ss, Pz p) : (timesAll ss).sum = prodI (ss.map List.sum) := by
  have := (foldl_pz pz_one h).2.1
  rw [show ([1] : List Int).sum = 1 from rfl, Int.one_mul] at this
  exact this
theorem timesAll_len {ss : List (List Int)} (h : ∀ p ∈ ss, Pz p) : (timesAll ss).length + ss.length = 1 + (ss.map List.length).sum := (foldl_pz pz_one h).2.2
theorem prodI_pos : ∀ {ts : List Int}, (∀ t ∈ ts, 1 ≤ t) → 1 ≤ prodI ts
  | [], _ => Int.le_refl _
  | t :: r, h => by
    rw [prodI_cons]
    exact mul_pos1 (h t List.mem_cons_self) (prodI_pos fun x hx => h x (List.mem_cons_of_mem _ hx))
theorem prodI_append (a b : List Int) : prodI (a ++ b) = prodI a * prodI b := by
  unfold prodI
  rw [List.foldl_append, foldl_mul]
  rfl
theorem prodI_take {ts : List Int} (h : ∀ t ∈ ts, 1 ≤ t) (i : Nat) : prodI (ts.take i) ≤ prodI ts := by
  have h1 : 1 ≤ prodI (ts.take i) := prodI_pos fun t ht => h t (List.mem_of_mem_take ht)
  have h2 : 1 ≤ prodI (ts.drop i) := prodI_pos fun t ht => h t (List.mem_of_mem_drop ht)
  have h3 : prodI ts = prodI (ts.take i) * prodI (ts.drop i) := by rw [← prodI_append, List.take_append_drop]
  rw [h3]
  have := Int.mul_le_mul_of_nonneg_left h2 (show 0 ≤ prodI (ts.take i) by omega)
  rwa [Int.mul_one] at this
theorem prodI_mem {ts : List Int} (h : ∀ t ∈ ts, 1 ≤ t) : ∀ t ∈ ts, t ≤ prodI ts := by
  induction ts with
  | nil => intro t ht; exact nomatch ht
  | cons a r ih =>
    intro t ht
    have h1 := h a List.mem_cons_self
    have h2 : ∀ t ∈ r, 1 ≤ t := fun x hx => h x (List.mem_cons_of_mem _ hx)
    have h3 := prodI_pos h2
    rw [prodI_cons]
    rcases List.mem_cons.mp ht with e | e
    · rw [e]
      have := Int.mul_le_mul_of_nonneg_left h3 (show 0 ≤ a by omega)
      rwa [Int.mul_one] at this
    · have h4 := ih h2 t e
      have := Int.mul_le_mul_of_nonneg_right h1 (show 0 ≤ prodI r by omega)
      rw [Int.one_mul] at this
      omega
/-- one part unlike the others -/
def oneU (c : Int) : List Int → List (List Int) → List Int → List Int
  | t :: ts, u :: us, m => oneU c ts us (plusP m (u.map fun x => x * (c / t)))
  | _, _, m => m
theorem oneU_snoc (c t : Int) (u : List Int) : ∀ (ts : List Int) (us : List (List Int)) (m : List Int), ts.length = us.length → oneU c (ts ++ [t]) (us ++ [u]) m = plusP (oneU c ts us m) (u.map fun x => x * (c / t))
  | [], [], m, _ => rfl
  | a :: r, b :: q, m, h => by
    rw [List.cons_append, List.cons_append, oneU, oneU, oneU_snoc c t u r q _ (by simpa using h)]
  | [], _ :: _, _, h => by simp at h
  | _ :: _, [], _, h => by simp at h
theorem oneU_len (c : Int) (L : Nat) : ∀ (ts : List Int) (us : List (List Int)) (m : List Int), m.length ≤ L → (∀ u ∈ us, u.length ≤ L) → (oneU c ts us m).length ≤ L
  | [], _, m, h, _ => by unfold oneU; exact h
  | _ :: _, [], m, h, _ => by unfold oneU; exact h
  | t :: ts, u :: us, m, h, hu => by
    rw [oneU]
    refine oneU_len c L ts us _ ?_ fun x hx => hu x (List.mem_cons_of_mem _ hx)
    have := hu u List.mem_cons_self
    rw [plusP_len, List.length_map]
    omega
/-- what knot_hangs gives -/
def hangs (ss us : List (List Int)) : List Int × List Int :=
  let a := timesAll ss
  let ts := ss.map List.sum
  let o := oneU (prodI ts) ts us [0]
  (a, plusP o [prodI (List.zipWith (fun s u => s.sum + u.sum) ss us) - a.sum - o.sum])
end Dl

set_option Elab.async false
set_option maxRecDepth 100000
set_option maxHeartbeats 2000000
set_option linter.all false
namespace Dt
open PySem L2 Evl
section
variable {K : PySem.W.Frag} {S : List Addr} {σ : L2.St} {H H' : Hp} {ta tb te tl : TE} {t : TT} {D : Ends} {tz tu tw : TS} {v : V} {α β : Type}
theorem given_all (n : Nat) (v : Nat → V) : given n (fun _ => true) v = (List.range n).map v := by
  unfold given
  rw [List.filter_eq_self.mpr fun _ _ => rfl]
/-- [e for x in list]: what each gives is known -/
theorem el_lcMap {a : Addr} {xs : List V} {zs : List α} {j : Nat} {vs : List Nat} (g : α → V) (h : Ev tl σ H (.ref a)) (hx : SqL K H a xs) (hlen : xs.length = zs.length) (hz : xs.length ≤ 40000) (hw : ∀ x, wipe ((wipe σ vs).set j (some x)) vs = wipe σ vs)
    (he : ∀ (i : Nat) (x : V) (z : α) H1, Ex H H1 → xs[i]? = some x → zs[i]? = some z → Ev te ((wipe σ vs).set j (some x)) H1 (g z)) : EvL (tLc (iList K tl) (gName j) tYes te vs) σ H (zs.map g) := by
  have e : zs.map g = given xs.length (fun _ => true) (fun i => ((zs[i]?).map g).getD .non) := by
    rw [given_all]
    refine List.ext_getElem? fun i => ?_
    rw [List.getElem?_map, List.getElem?_map]
    by_cases hi : i < xs.length
    · have hz2 : zs[i]? = some (zs[i]'(by omega)) := List.getElem?_eq_getElem (by omega)
      rw [List.getElem?_range hi, Option.map_some, hz2]
      rfl
    · rw [List.getElem?_eq_none_iff.mpr (by omega), List.getElem?_eq_none_iff.mpr (by rw [List.length_range]; omega)]
      rfl
  rw [e]
  refine el_lcL (fun _ => true) _ h hx hz hw (fun i x H1 e1 hi => et_none) (fun i x H1 e1 hi _ => ?_)
  have hl : i < zs.length := by rw [← hlen]; exact (List.getElem?_eq_some_iff.mp hi).1
  have hz' : zs[i]? = some zs[i] := List.getElem?_eq_getElem hl
  have := he i x _ H1 e1 hi hz'
  rw [hz']
  exact this
/-- [e for x, y in zip(list, list)] -/
theorem el_lcZip {l r : Addr} {xs ys : List V} {zs : List α} {ws : List β} {a b : Nat} {vs : List Nat} (g : α → β → V) (h1 : Ev ta σ H (.ref l)) (h2 : Ev tb σ H (.ref r)) (hx : SqL K H l xs) (hy : SqL K H r ys) (hlx : xs.length = zs.length) (hly : ys.length = ws.length) (hxy : xs.length = ys.length)
    (hz : xs.length ≤ 40000) (hw : ∀ x y, wipe (((wipe σ vs).set a (some x)).set b (some y)) vs = wipe σ vs)
    (he : ∀ (i : Nat) (x y : V) (z : α) (u : β) H1, Ex H H1 → xs[i]? = some x → ys[i]? = some y → zs[i]? = some z → ws[i]? = some u → Ev te (((wipe σ vs).set a (some x)).set b (some y)) H1 (g z u)) :
    EvL (tLc (iZip K (tCons ta (tCons tb tNil))) (gTup K 2 (gCons (gName a) (gCons (gName b) gNil))) tYes te vs) σ H (List.zipWith g zs ws) := fun H0 e Q k =>
  h1 H0 e _ fun H1 e1 => h2 H1 (e.trans e1) _ fun H2 e2 => by
    have e02 := e.trans (e1.trans e2)
    refine ⟨l, r, xs, ys, rfl, ex_l e02 hx, ex_l e02 hy, fun Dl hD => ?_⟩
    refine ⟨fun i m G => m = xs.length - i ∧ i ≤ xs.length ∧ Ex H2 G ∧ G Dl = some (.lst ((List.zipWith g zs ws).take i)), ⟨xs.length, rfl, Nat.zero_le _, Ex.new hD, upd_same⟩, ?_⟩
    rintro i m G ⟨rfl, hi, eG, hG⟩
    have qx := ex_l (e02.trans eG) hx
    have qy := ex_l (e02.trans eG) hy
    have hzl : (List.zipWith g zs ws).length = xs.length := by rw [List.length_zipWith]; omega
    by_cases e3 : i = xs.length
    · refine .inl ⟨⟨xs, ys, qx, qy, .inl (by omega)⟩, ?_⟩
      rw [e3, ← hzl, List.take_length] at hG
      exact k Dl G (fresh_back (e1.trans e2) hD) ((e1.trans e2).trans eG) hG
    · have hlt : i < xs.length := by omega
      refine .inr ⟨⟨xs, ys, xs[i], ys[i]'(by omega), qx, qy, List.getElem?_eq_getElem hlt, List.getElem?_eq_getElem (by omega)⟩, fun G2 => Ex H2 G2 ∧ G2 Dl = some (.lst ((List.zipWith g zs ws).take (i + 1))), fun G2 p2 => ⟨xs.length - (i + 1), by omega, rfl, by omega, p2⟩, ?_⟩
      rintro v H3 ⟨T, x, y, rfl, hT, rfl, hx', hy'⟩
      refine ⟨T, [x, y], rfl, st_of upd_same, rfl, x, [y], rfl, y, [], rfl, rfl, hw x y, ?_⟩
      have hz' : zs[i]? = some (zs[i]'(by omega)) := List.getElem?_eq_getElem (by omega)
      have hw' : ws[i]? = some (ws[i]'(by omega)) := List.getElem?_eq_getElem (by omega)
      have eT := eG.trans (Ex.new hT (o := .tup [x, y]))
      show tYes _ _ _
      show te _ _ _
      refine he i x y _ _ _ (e02.trans eT) (hx' xs qx) (hy' ys qy) hz' hw' _ (Ex.refl _) _ fun H4 e4 => ⟨_, (e4 _ _ (Ex.new hT _ _ hG)), sz_lt (by rw [List.length_take]; omega), ?_, ?_⟩
      · exact Ex.mut (eT.trans e4) hD
      · rw [upd_same, List.take_succ, List.getElem?_zipWith, hz', hw']
        rfl
end
end Dt

set_option Elab.async false
set_option maxRecDepth 100000
set_option maxHeartbeats 4000000
set_option linter.all false
/-! the numbers of a knot -/
namespace Dl
open PySem L2 Evl Dt
/-- a list of lists of ints at a -/
def LL (K : PySem.W.Frag) (H : Hp) (a : Addr) (vs : List V) (pss : List (List Int)) : Prop := SqL K H a vs ∧ vs.length = pss.length ∧ ∀ (i : Nat) (v : V) (p : List Int), vs[i]? = some v → pss[i]? = some p → LI K H v p
theorem LL.mono {K : PySem.W.Frag} {H H' : Hp} {a : Addr} {vs : List V} {pss : List (List Int)} (e : Ex H H') (h : LL K H a vs pss) : LL K H' a vs pss := ⟨ex_l e h.1, h.2.1, fun i v p h1 h2 => (h.2.2 i v p h1 h2).mono e⟩
theorem LL.at {K : PySem.W.Frag} {H : Hp} {a : Addr} {vs : List V} {pss : List (List Int)} (h : LL K H a vs pss) {i : Nat} {v : V} (hi : vs[i]? = some v) : ∃ p, pss[i]? = some p ∧ LI K H v p := by
  have hl := (List.getElem?_eq_some_iff.mp hi).1
  have hp : pss[i]? = some (pss[i]'(by have := h.2.1; omega)) := List.getElem?_eq_getElem _
  exact ⟨_, hp, h.2.2 i v _ hi hp⟩
/-- the bounds under which it is calculated -/
structure Bd (ss us : List (List Int)) : Prop where
  len : ss.length = us.length
  ps : ∀ p ∈ ss, Pz p
  pu : ∀ p ∈ us, Pz p
  few : (ss.map List.length).sum ≤ 1000
  fewu : ∀ p ∈ us, p.length ≤ 1000
  small : ∀ p ∈ ss, p.sum < 1073741824
  smallu : ∀ p ∈ us, p.sum < 1073741824
  prod : prodI (ss.map List.sum) < 2 ^ 60
section
variable {K : PySem.W.Frag} {σ : L2.St} {H : Hp} {ta tb te tl : TE} {v u : V} {xs ys ns : List Int}
theorem ev_sumV (h : Ev te σ H v) (hl : LI K H v ns) : Ev (tCB (rSum K) (tCons te tNil)) σ H (.int ns.sum) := fun H1 e Q q =>
  h H1 e _ fun H2 e2 => by
    obtain ⟨a, rfl, h2⟩ := hl.mono (e.trans e2)
    exact ⟨a, ns, rfl, h2, q H2 e2⟩
theorem el_times {E : XK} (h1 : Ev ta σ H v) (h2 : Ev tb σ H u) (l1 : LI K H v xs) (l2 : LI K H u ys) (b1 : 1 ≤ xs.length) (b2 : 1 ≤ ys.length) (b3 : xs.length + ys.length ≤ 10000) (hs : ∀ x ∈ xs, Sm x) :
    EvL (tCall (spTimes K) [] E (tCons ta (tCons tb tNil))) σ H ((timesP xs ys).map V.int) := fun H1 e Q q =>
  h1 H1 e _ fun H2 e2 => h2 H2 (e.trans e2) _ fun H3 e3 => ⟨v, u, xs, ys, rfl, l1.mono (e.trans (e2.trans e3)), l2.mono (e.trans (e2.trans e3)), b1, b2, b3, hs, fun p H4 hp e4 h4 => q p H4 (fresh_back (e2.trans e3) hp) ((e2.trans e3).trans e4) h4⟩
theorem el_plus {E : XK} (h1 : Ev ta σ H v) (h2 : EvL tb σ H (ys.map V.int)) (l1 : LI K H v xs) (b3 : xs.length + ys.length ≤ 10000) :
    EvL (tCall (spPlus K) [] E (tCons ta (tCons tb tNil))) σ H ((plusP xs ys).map V.int) := fun H1 e Q q =>
  h1 H1 e _ fun H2 e2 => h2 H2 (e.trans e2) _ fun r H3 hr e3 h3 => ⟨v, .ref r, xs, ys, rfl, l1.mono (e.trans (e2.trans e3)), ⟨r, rfl, sq_of h3⟩, b3, fun p H4 hp e4 h4 => q p H4 (fresh_back (e2.trans e3) hp) ((e2.trans e3).trans e4) h4⟩
end
theorem sm_of {p : List Int} (h : Nn p) {B : Int} (hb : p.sum < B) (hB : B ≤ 2 ^ 64) : ∀ x ∈ p, Sm x := fun x hx => by
  have h1 := h x hx
  have h2 := h.le_sum x hx
  exact ⟨by omega, by omega⟩
/-- two new lists, in a new tuple -/
def Ret2 (K : PySem.W.Frag) (x y : List Int) (H : Hp) (Q : VK) : Prop := ∀ (p a b : Addr) (H2 : Hp), H p = none → Ex H H2 → H2 p = some (.tup [.ref a, .ref b]) → H2 a = some (.lst (x.map V.int)) → H2 b = some (.lst (y.map V.int)) → H a = none → H b = none → Q (.ref p) H2
section
variable {P : Program} {w : World} {K : PySem.W.Frag} {mg : Str → Option Value} {base : Heap} {f C : Addr} {fd : FuncData} {τ : Type}
def spKnot (K : PySem.W.Frag) : Sp := fun vs H Q _ => ∃ a b xs ys ss us, vs = [.ref a, .ref b] ∧ LL K H a xs ss ∧ LL K H b ys us ∧ Bd ss us ∧ Ret2 K (hangs ss us).1 (hangs ss us).2 H Q
abbrev s_knot_hangs : Stmt := topS 29
abbrev N_knot_hangs : List Str := ["same", "unlike", "all_same", "numbers", "totals", "whole", "one_unlike", "total", "others", "rest", "one", "other", "number"]
theorem sc_knot_hangs : FnScope N_knot_hangs ["same", "unlike"] (defScope s_knot_hangs) := ⟨rfl, rfl, rfl, by decide +kernel, rfl, by decide +kernel, by decide +kernel⟩

theorem ok_knot_hangs (F : Fun K "knot_hangs" "knot_hangs" s_knot_hangs f fd) (T : Nm mg) (h_times : Has P w K mg base 1 "times" ["one", "other"] (spTimes K)) (h_plus : Has P w K mg base 1 "plus" ["one", "other"] (spPlus K)) (h_product_of : Has P w K mg base 1 "product_of" ["numbers"] (spProd K)) :
    FnOk P w K mg base CX0 2 f fd ["same", "unlike"] (spKnot K) := by
  refine F.ok sc_knot_hangs (fun vs H Q E h => ?_) (fun cdv A' outer s H vs Q E hr h => ?_)
  · obtain ⟨a, b, xs, ys, ss, us, rfl, _⟩ := h
    rfl
  · obtain ⟨a, b, xs, ys, ss, us, rfl, ha, hb, B, k⟩ := h
    have nd := sc_knot_hangs.nd
    refine ⟨_, (pss_cons (ps_set (i := 2) nd rfl (Or.inl rfl) (pe_lst (pa_cons pe_int pa_nil)))
  (pss_cons (ps_for PassesOwn.never rfl (pi_list (pv 0)) (pg_name (i := 3) nd rfl (Or.inl rfl)) (pss_one (ps_set (i := 2) nd rfl (Or.inl rfl) (pe_has h_times (hr.mono (by first | decide | omega)) (pa_cons (pv 2) (pa_cons (pv 3) pa_nil))))))
  (pss_cons (ps_setLc (i := 4) (own := [("numbers", 3)]) rfl nd rfl rfl (sw_true rfl rfl rfl (by decide +kernel)) (pi_list (pv 0)) (blkOk_by (own := [("numbers", 3)]) (N := N_knot_hangs) (sc := defScope s_knot_hangs) (by decide +kernel)) (fun _ _ _ _ _ => (pg_name (i := 3) nd rfl (Or.inl rfl))) (fun _ _ _ _ _ => pts_nil) (fun _ _ _ _ _ => (pe_callB (show CallR _ _ (rSum K) from cr_sum rfl) (by rfl) T.n_sum (by decide +kernel) (pa_cons (pv 3) pa_nil))))
  (pss_cons (ps_set (i := 5) nd rfl (Or.inl rfl) (pe_has h_product_of (hr.mono (by first | decide | omega)) (pa_cons (pe_lc (own := [("one", 10), ("other", 11)]) rfl nd (pi_zip (by rfl) T.n_zip (pa_cons (pv 0) (pa_cons (pv 1) pa_nil))) (blkOk_by (own := [("one", 10), ("other", 11)]) (N := N_knot_hangs) (sc := defScope s_knot_hangs) (by decide +kernel)) (fun _ _ _ _ _ => (show PG _ _ (gTup K 2 (gCons (gName 10) (gCons (gName 11) gNil))) from pg_tup rfl (pgs_cons (pg_name (i := 10) nd rfl (Or.inl rfl) (Or.inr rfl)) (pgs_cons (pg_name (i := 11) nd rfl (Or.inl rfl) (Or.inr rfl)) pgs_nil)))) (fun _ _ _ _ _ => pts_nil) (fun _ _ _ _ _ => (pe_op op_add (pe_callB (show CallR _ _ (rSum K) from cr_sum rfl) (by rfl) T.n_sum (by decide +kernel) (pa_cons (pv 10) pa_nil)) (pe_callB (show CallR _ _ (rSum K) from cr_sum rfl) (by rfl) T.n_sum (by decide +kernel) (pa_cons (pv 11) pa_nil))))) pa_nil)))
  (pss_cons (ps_set (i := 6) nd rfl (Or.inl rfl) (pe_lst (pa_cons pe_int pa_nil)))
  (pss_cons (ps_for PassesOwn.never rfl (pi_zip (by rfl) T.n_zip (pa_cons (pv 4) (pa_cons (pv 1) pa_nil))) (pg_tup rfl (pgs_cons (pg_name (i := 7) nd rfl (Or.inl rfl)) (pgs_cons (pg_name (i := 3) nd rfl (Or.inl rfl)) pgs_nil))) (pss_cons (ps_set (i := 8) nd rfl (Or.inr rfl) (pe_op op_fdiv (pe_has h_product_of (hr.mono (by first | decide | omega)) (pa_cons (pv 4) pa_nil)) (pv 7)))
  (pss_one (ps_set (i := 6) nd rfl (Or.inl rfl) (pe_has h_plus (hr.mono (by first | decide | omega)) (pa_cons (pv 6) (pa_cons (pe_lc (own := [("number", 12)]) rfl nd (pi_list (pv 3)) (blkOk_by (own := [("number", 12)]) (N := N_knot_hangs) (sc := defScope s_knot_hangs) (by decide +kernel)) (fun _ _ _ _ _ => (pg_name (i := 12) nd rfl (Or.inl rfl))) (fun _ _ _ _ _ => pts_nil) (fun _ _ _ _ _ => (pe_op op_mul (pv 12) (pv 8)))) pa_nil)))))))
  (pss_cons (ps_set (i := 9) nd rfl (Or.inl rfl) (pe_op op_sub (pe_op op_sub (pv 5) (pe_callB (cr_sum rfl) (by rfl) T.n_sum (by decide +kernel) (pa_cons (pv 2) pa_nil))) (pe_callB (cr_sum rfl) (by rfl) T.n_sum (by decide +kernel) (pa_cons (pv 6) pa_nil))))
  (pss_one (ps_ret (pe_tup (pa_cons (pv 2) (pa_cons (pe_has h_plus (hr.mono (by first | decide | omega)) (pa_cons (pv 6) (pa_cons (pe_lst (pa_cons (pv 9) pa_nil)) pa_nil))) pa_nil)))))))))))), ?_⟩
    have tk : ∀ i, ∀ p ∈ ss.take i, Pz p := fun i p hp => B.ps p (List.mem_of_mem_take hp)
    have pos : ∀ t ∈ ss.map List.sum, 1 ≤ t := fun t ht => by
      obtain ⟨p, hp, rfl⟩ := List.mem_map.mp ht
      exact (B.ps p hp).pos
    have lss : ss.length ≤ 1000 := by
      have h1 := timesAll_len B.ps
      have h2 := (timesAll_pz B.ps).ne
      have h3 := B.few
      omega
    -- all_same
    refine q_asgL (xs := ([1] : List Int).map V.int) (el_lst (ea_cons ev_c ea_nil) (by decide)) fun m H1 hm e1 hm1 => ?_
    refine q_forLn (K := K) (j := 3) (ev_var (i := 0) rfl) (ex_l e1 ha.1) (fun i σ' G => ∃ m x3, σ' = [some (.ref a), some (.ref b), some (.ref m), x3, none, none, none, none, none, none, none, none, none] ∧ Ex H G ∧ H m = none ∧ G m = some (.lst ((timesAll (ss.take i)).map V.int)))
      (fun H2 e2 => ⟨m, none, rfl, e1.trans e2, hm, e2 _ _ hm1⟩) (fun i σ' G _ ⟨_, _, _, e, _⟩ => ex_l e ha.1) ?_ ?_
    · rintro i x σ' G hxi ⟨m, x3, rfl, eG, hm, hG⟩
      obtain ⟨p, hp, hl⟩ := ha.at hxi
      have pz := timesAll_pz (tk i)
      have hpz := B.ps p (List.mem_of_getElem? hp)
      have h1 := timesAll_len (tk (i + 1))
      rw [List.take_succ, hp, Option.toList_some, timesAll_snoc, timesP_len] at h1
      have hsum : (List.map List.length (ss.take (i + 1))).sum ≤ (ss.map List.length).sum := by
        have : (ss.map List.length) = (ss.take (i + 1)).map List.length ++ (ss.drop (i + 1)).map List.length := by rw [← List.map_append, List.take_append_drop]
        rw [this, List.sum_append]
        omega
      rw [List.take_succ, hp, Option.toList_some] at hsum
      have hfew := B.few
      have hsm : (timesAll (ss.take i)).sum < 2 ^ 60 := by
        rw [timesAll_sum (tk i), List.map_take]
        have := prodI_take pos i
        have := B.prod
        omega
      refine s_asgL (el_times (K := K) (ev_var (i := 2) rfl) (ev_var (i := 3) rfl) ⟨m, rfl, sq_of hG⟩ (hl.mono eG) pz.ne hpz.ne (by have := hpz.ne; have := pz.ne; omega) (sm_of pz.nn hsm (by decide))) fun r G2 hr e2 h2 => ⟨r, some x, rfl, eG.trans e2, fresh_back eG hr, ?_⟩
      rw [List.take_succ, hp, Option.toList_some, timesAll_snoc, h2]
    · rintro σ' G ⟨m, x3, rfl, eG, hm, hG⟩
      rw [ha.2.1, List.take_length] at hG
      have haG := ha.mono eG
      have hbG := hb.mono eG
      have hbs := hb.2.1
      have has := ha.2.1
      have hlen := B.len
      -- totals
      refine q_asgL (el_lcMap (K := K) (j := 3) (vs := [3]) (zs := ss) (fun p => V.int p.sum) (ev_var (i := 0) rfl) haG.1 has (by omega) (fun x => rfl) (fun i x z H1 e1 hx hz => ev_sumV (ev_var (i := 3) rfl) ((haG.2.2 i x z hx hz).mono e1))) fun ts G1 hts e1 h1 => ?_
      have ets : ss.map (fun p => V.int p.sum) = (ss.map List.sum).map V.int := by rw [List.map_map]; rfl
      rw [ets] at h1
      have eH1 := eG.trans e1
      -- whole
      have ew : List.zipWith (fun (x y : List Int) => V.int (x.sum + y.sum)) ss us = (List.zipWith (fun s u => s.sum + u.sum) ss us).map V.int := by rw [List.map_zipWith]
      have hzip := el_lcZip (K := K) (σ := [some (.ref a), some (.ref b), some (.ref m), x3, some (.ref ts), none, none, none, none, none, none, none, none]) (H := G1) (a := 10) (b := 11) (vs := [10, 11]) (te := tOp (rI0 fun i j => .int (i + j)) (tCB (rSum K) (tCons (tVar 10) tNil)) (tCB (rSum K) (tCons (tVar 11) tNil)))
        (zs := ss) (ws := us) (fun (x y : List Int) => V.int (x.sum + y.sum)) (ev_var (i := 0) rfl) (ev_var (i := 1) rfl) (haG.mono e1).1 (hbG.mono e1).1 has hbs (by omega) (by omega) (fun x y => rfl)
        (fun i x y z u H1 e2 hx hy hz hu => ev_op (ev_sumV (ev_var (i := 10) rfl) (((haG.mono e1).2.2 i x z hx hz).mono e2)) (ev_sumV (ev_var (i := 11) rfl) (((hbG.mono e1).2.2 i y u hy hu).mono e2)) rv_I0)
      rw [ew] at hzip
      have hsmz : ∀ n ∈ List.zipWith (fun s u => s.sum + u.sum) ss us, Sm n := fun n hn => by
        obtain ⟨i, hi⟩ := List.mem_iff_getElem?.mp hn
        rw [List.getElem?_zipWith] at hi
        cases h1 : ss[i]? with
        | none => rw [h1] at hi; simp at hi
        | some p =>
          cases h2 : us[i]? with
          | none => rw [h1, h2] at hi; simp at hi
          | some q =>
            rw [h1, h2] at hi
            simp at hi
            have a1 := B.small p (List.mem_of_getElem? h1)
            have a2 := B.smallu q (List.mem_of_getElem? h2)
            have a3 := (B.ps p (List.mem_of_getElem? h1)).pos
            have a4 := (B.pu q (List.mem_of_getElem? h2)).pos
            exact ⟨by omega, by omega⟩
      refine q_asg (ev_prod (K := K) hzip hsmz) fun G2 e2 => ?_
      have eH2 := eH1.trans e2
      -- one_unlike
      refine q_asgL (xs := ([0] : List Int).map V.int) (el_lst (ea_cons ev_c ea_nil) (by decide)) fun o G3 ho e3 h3 => ?_
      have eH3 := eH2.trans e3
      have hts3 := e3 _ _ (e2 _ _ h1)
      have hm3 := e3 _ _ (e2 _ _ (e1 _ _ hG))
      have htH := fresh_back eG hts
      let W := prodI (List.zipWith (fun s u => s.sum + u.sum) ss us)
      refine q_forZip (K := K) (a := 7) (b := 3) (xs := (ss.map List.sum).map V.int) (ys := ys) (ev_var (i := 4) rfl) (ev_var (i := 1) rfl) (sq_of hts3) (hb.mono eH3).1 (by rw [List.length_map, List.length_map]; omega)
        (fun i σ' G => ∃ o x3 x7 x8, σ' = [some (.ref a), some (.ref b), some (.ref m), x3, some (.ref ts), some (.int W), some (.ref o), x7, x8, none, none, none, none] ∧ Ex G3 G ∧ H o = none ∧ G o = some (.lst ((oneU (prodI (ss.map List.sum)) ((ss.map List.sum).take i) (us.take i) [0]).map V.int)))
        (fun H2 e4 => ⟨o, x3, none, none, rfl, e4, fresh_back eH2 ho, by rw [List.take_zero, List.take_zero]; exact e4 _ _ h3⟩)
        (fun i σ' G ⟨_, _, _, _, _, e, _⟩ => ⟨sq_of (e _ _ hts3), (hb.mono (eH3.trans e)).1⟩) ?_ ?_
      · rintro i x y σ' G4 hxi hyi ⟨o, x3, x7, x8, rfl, eG4, ho, hoG⟩ G5 e5
        rw [List.getElem?_map] at hxi
        obtain ⟨t, ht, rfl⟩ := Option.map_eq_some_iff.mp hxi
        have ht' := ht
        rw [List.getElem?_map] at ht
        obtain ⟨p, hp, rfl⟩ := Option.map_eq_some_iff.mp ht
        obtain ⟨q, hq, hl⟩ := hb.at hyi
        have mp := List.mem_of_getElem? hp
        have mq := List.mem_of_getElem? hq
        have eH5 := eH3.trans (eG4.trans e5)
        have hts5 := e5 _ _ (eG4 _ _ hts3)
        have hl5 := hl.mono eH5
        obtain ⟨yq, rfl, hyq⟩ := id hl5
        have hpos := (B.ps p mp).pos
        have hsml := B.small p mp
        have hqn := (B.pu q mq)
        have hql := B.fewu q mq
        have smt : ∀ n ∈ ss.map List.sum, Sm n := fun n hn => by
          obtain ⟨p', hp', rfl⟩ := List.mem_map.mp hn
          have a1 := B.small p' hp'
          have a2 := (B.ps p' hp').pos
          exact ⟨by omega, by omega⟩
        have smq := sm_of hqn.nn (B.smallu q mq) (by decide)
        show tSeq _ _ _ [some (.ref a), some (.ref b), some (.ref m), some (.ref yq), some (.ref ts), some (.int W), some (.ref o), some (.int p.sum), x8, none, none, none, none] G5
        refine q_asg (ev_op (ev_prodV (K := K) (ev_var (i := 4) rfl) ⟨ts, rfl, sq_of hts5⟩ smt) (ev_var (i := 7) rfl) (rv_I ⟨by omega, hsml⟩)) fun G6 e6 => ?_
        have hoG6 := e6 _ _ (e5 _ _ hoG)
        have hlo : (oneU (prodI (ss.map List.sum)) ((ss.map List.sum).take i) (us.take i) [0]).length ≤ 1000 := oneU_len _ 1000 _ _ _ (by decide) fun u hu => B.fewu u (List.mem_of_mem_take hu)
        refine s_asgL (el_plus (K := K) (xs := oneU (prodI (ss.map List.sum)) ((ss.map List.sum).take i) (us.take i) [0]) (ys := q.map fun x => x * (prodI (ss.map List.sum) / p.sum)) (ev_var (i := 6) rfl)
          (lc_ints (K := K) (xs := []) (g := fun x => x * (prodI (ss.map List.sum) / p.sum)) (ev_var (i := 3) rfl) (ex_l e6 hyq) (by omega) (fun x => rfl) (fun n H1 e7 hn => ev_op (ev_var (i := 12) rfl) (ev_var (i := 8) rfl) (rv_I (.inl (smq n hn))))) ⟨o, rfl, sq_of hoG6⟩ (by rw [List.length_map]; omega)) fun r G7 hr e7 h7 => ?_
        refine ⟨r, _, _, _, rfl, eG4.trans (e5.trans (e6.trans e7)), fresh_back (eH5.trans e6) hr, ?_⟩
        rw [h7, List.take_succ (l := us), hq, Option.toList_some, List.take_succ (l := ss.map List.sum), ht', Option.toList_some, oneU_snoc]
        rw [List.length_take, List.length_take, List.length_map, hlen]
      · rintro σ' G4 ⟨o, x3, x7, x8, rfl, eG4, ho, hoG⟩
        rw [List.length_map, List.take_length, List.length_map, hlen, List.take_length] at hoG
        have hm4 := eG4 _ _ hm3
        have eH4 := eH3.trans eG4
        refine q_asg (ev_op (ev_op (ev_var (i := 5) rfl) (ev_sumV (K := K) (ns := timesAll ss) (ev_var (i := 2) rfl) ⟨m, rfl, sq_of hm4⟩) rv_I0) (ev_sumV (K := K) (ev_var (i := 6) rfl) ⟨o, rfl, sq_of hoG⟩) rv_I0) fun G5 e5 => ?_
        have hlo : (oneU (prodI (ss.map List.sum)) (ss.map List.sum) us [0]).length ≤ 1000 := oneU_len _ 1000 _ _ _ (by decide) B.fewu
        have hpl := el_plus (K := K) (E := E0) (σ := [some (.ref a), some (.ref b), some (.ref m), x3, some (.ref ts), some (.int W), some (.ref o), x7, x8, some (.int (W - (timesAll ss).sum - (oneU (prodI (ss.map List.sum)) (ss.map List.sum) us [0]).sum)), none, none, none]) (H := G5) (ta := tVar 6) (tb := tLst (tCons (tVar 9) tNil))
          (xs := oneU (prodI (ss.map List.sum)) (ss.map List.sum) us [0]) (ys := [W - (timesAll ss).sum - (oneU (prodI (ss.map List.sum)) (ss.map List.sum) us [0]).sum]) (ev_var (i := 6) rfl) (el_lst (ea_cons (ev_var (i := 9) rfl) ea_nil) (show 1 ≤ 100000 by decide)) ⟨o, rfl, sq_of (e5 _ _ hoG)⟩ (by simp; omega)
        refine ⟨_, rfl, hpl G5 (Ex.refl G5) _ fun r G6 hr e6 h6 => ⟨by show 2 ≤ sizeLine; decide, fun p hp => ?_⟩⟩
        refine k p m r _ (fresh_back (eH4.trans (e5.trans e6)) hp) ((eH4.trans (e5.trans e6)).trans (Ex.new hp)) upd_same ?_ ?_ hm (fresh_back (eH4.trans e5) hr)
        · exact Ex.new hp _ _ (e6 _ _ (e5 _ _ hm4))
        · exact Ex.new hp _ _ h6
end
end Dl

set_option Elab.async false
set_option maxRecDepth 100000
set_option linter.all false
/-! the numbers of a tree -/
namespace Dl
/-- Σ x_i · Π of the other t -/
def one1 : List Int → List Int → Int
  | t :: ts, x :: xs => x * prodI ts + t * one1 ts xs
  | _, _ => 0
def sdiv (c : Int) : List Int → List Int → Int
  | t :: ts, x :: xs => x * (c / t) + sdiv c ts xs
  | _, _ => 0
theorem dvd_prodI : ∀ {ts : List Int} {t : Int}, t ∈ ts → t ∣ prodI ts
  | a :: r, t, h => by
    rw [prodI_cons]
    rcases List.mem_cons.mp h with e | e
    · rw [e]; exact Int.dvd_mul_right _ _
    · exact Int.dvd_trans (dvd_prodI e) (Int.dvd_mul_left _ _)
theorem sdiv_mul (t c : Int) : ∀ (ts xs : List Int), (∀ x ∈ ts, x ∣ c) → sdiv (t * c) ts xs = t * sdiv c ts xs
  | [], _, _ => by unfold sdiv; rw [Int.mul_zero]
  | _ :: _, [], _ => by unfold sdiv; rw [Int.mul_zero]
  | a :: r, x :: xs, h => by
    rw [sdiv, sdiv, sdiv_mul t c r xs fun y hy => h y (List.mem_cons_of_mem _ hy), Int.mul_ediv_assoc _ (h a List.mem_cons_self), Int.mul_add]
    rw [← Int.mul_assoc, ← Int.mul_assoc, Int.mul_comm x t]
theorem sdiv_one1 : ∀ (ts xs : List Int), (∀ t ∈ ts, 1 ≤ t) → sdiv (prodI ts) ts xs = one1 ts xs
  | [], _, _ => by unfold sdiv one1; rfl
  | _ :: _, [], _ => by unfold sdiv one1; rfl
  | t :: r, x :: xs, h => by
    have h1 := h t List.mem_cons_self
    rw [sdiv, one1, prodI_cons, Int.mul_ediv_cancel_left _ (by omega), sdiv_mul t (prodI r) r xs fun y hy => dvd_prodI hy, sdiv_one1 r xs fun y hy => h y (List.mem_cons_of_mem _ hy)]
theorem oneU_P0 (φ : Nat → Int) (c : Int) : ∀ (ts : List Int) (us : List (List Int)) (m : List Int), ts.length = us.length → P0 φ (oneU c ts us m) = P0 φ m + sdiv c ts (us.map (P0 φ))
  | [], [], m, _ => by
    show P0 φ m = P0 φ m + 0
    rw [Int.add_zero]
  | [], _ :: _, _, h => by simp at h
  | _ :: _, [], _, h => by simp at h
  | t :: ts, u :: us, m, h => by
    rw [oneU, oneU_P0 φ c ts us _ (by simpa using h), P0_plus, List.map_cons, sdiv]
    have : P0 φ (u.map fun x => x * (c / t)) = P0 φ u * (c / t) := pr_scale φ (c / t) u 0
    rw [this]
    omega
theorem oneU_nn {c : Int} (hc : 0 ≤ c) : ∀ {ts : List Int} {us : List (List Int)} {m : List Int}, (∀ t ∈ ts, 1 ≤ t) → (∀ u ∈ us, Nn u) → Nn m → Nn (oneU c ts us m)
  | [], _, m, _, _, h => by unfold oneU; exact h
  | _ :: _, [], m, _, _, h => by unfold oneU; exact h
  | t :: ts, u :: us, m, h1, h2, h => by
    rw [oneU]
    refine oneU_nn hc (fun x hx => h1 x (List.mem_cons_of_mem _ hx)) (fun x hx => h2 x (List.mem_cons_of_mem _ hx)) (plusP_nn h fun y hy => ?_)
    obtain ⟨x, hx, rfl⟩ := List.mem_map.mp hy
    exact Int.mul_nonneg (h2 u List.mem_cons_self x hx) (Int.ediv_nonneg hc (by have := h1 t List.mem_cons_self; omega))
theorem oneU_ne (c : Int) : ∀ (ts : List Int) (us : List (List Int)) (m : List Int), 1 ≤ m.length → 1 ≤ (oneU c ts us m).length
  | [], _, m, h => by unfold oneU; exact h
  | _ :: _, [], m, h => by unfold oneU; exact h
  | t :: ts, u :: us, m, h => by
    rw [oneU]
    refine oneU_ne c ts us _ ?_
    rw [plusP_len]
    omega
theorem one1_nn : ∀ {ss us : List Int}, (∀ s ∈ ss, 1 ≤ s) → (∀ u ∈ us, 1 ≤ u) → 0 ≤ one1 ss us
  | [], _, _, _ => by unfold one1; decide
  | _ :: _, [], _, _ => by unfold one1; decide
  | s :: ss, u :: us, hs, hu => by
    have a1 := hs s List.mem_cons_self
    have a2 := hu u List.mem_cons_self
    have a3 : 1 ≤ prodI ss := prodI_pos fun x hx => hs x (List.mem_cons_of_mem _ hx)
    have a4 := one1_nn (ss := ss) (us := us) (fun x hx => hs x (List.mem_cons_of_mem _ hx)) fun x hx => hu x (List.mem_cons_of_mem _ hx)
    rw [one1]
    have b1 := Int.mul_nonneg (show 0 ≤ u by omega) (show 0 ≤ prodI ss by omega)
    have b2 := Int.mul_nonneg (show 0 ≤ s by omega) a4
    omega
theorem whole_ge : ∀ {ss us : List Int}, ss.length = us.length → (∀ s ∈ ss, 1 ≤ s) → (∀ u ∈ us, 1 ≤ u) → prodI ss + one1 ss us ≤ prodI (List.zipWith (fun s u => s + u) ss us)
  | [], [], _, _, _ => by decide
  | [], _ :: _, h, _, _ => by simp at h
  | _ :: _, [], h, _, _ => by simp at h
  | s :: ss, u :: us, h, hs, hu => by
    have a1 := hs s List.mem_cons_self
    have a2 := hu u List.mem_cons_self
    have hs' : ∀ x ∈ ss, 1 ≤ x := fun x hx => hs x (List.mem_cons_of_mem _ hx)
    have hu' : ∀ x ∈ us, 1 ≤ x := fun x hx => hu x (List.mem_cons_of_mem _ hx)
    have ih := whole_ge (ss := ss) (us := us) (by simpa using h) hs' hu'
    have a4 := one1_nn hs' hu'
    rw [List.zipWith_cons_cons, prodI_cons, prodI_cons, one1]
    have b1 := Int.mul_le_mul_of_nonneg_left ih (show 0 ≤ s + u by omega)
    rw [Int.mul_add, Int.add_mul, Int.add_mul] at b1
    have b2 := Int.mul_nonneg (show 0 ≤ u by omega) a4
    omega
theorem whole_gt : ∀ {ss us : List Int}, ss.length = us.length → ss ≠ [] → (∀ s ∈ ss, 1 ≤ s) → (∀ u ∈ us, 1 ≤ u) → prodI ss + 1 ≤ prodI (List.zipWith (fun s u => s + u) ss us)
  | s :: ss, u :: us, h, _, hs, hu => by
    have h1 := whole_ge h hs hu
    have a2 := hu u List.mem_cons_self
    have a3 : 1 ≤ prodI ss := prodI_pos fun x hx => hs x (List.mem_cons_of_mem _ hx)
    have a1 := hs s List.mem_cons_self
    have a4 := one1_nn (ss := ss) (us := us) (fun x hx => hs x (List.mem_cons_of_mem _ hx)) fun x hx => hu x (List.mem_cons_of_mem _ hx)
    rw [one1] at h1
    have b1 := mul_pos1 a2 a3
    have b2 := Int.mul_nonneg (show 0 ≤ s by omega) a4
    omega
  | [], _, _, h, _, _ => absurd rfl h
  | _ :: _, [], h, _, _, _ => by simp at h
/-- what is known of the numbers of a knot -/
theorem hangs_pz {ss us : List (List Int)} (hl : ss.length = us.length) (hne : ss ≠ []) (hs : ∀ p ∈ ss, Pz p) (hu : ∀ p ∈ us, Pz p) :
    Pz (hangs ss us).1 ∧ Pz (hangs ss us).2 ∧ (hangs ss us).1.sum + (hangs ss us).2.sum = prodI (List.zipWith (fun s u => s.sum + u.sum) ss us) ∧ (hangs ss us).1.sum = prodI (ss.map List.sum) := by
  have a1 := timesAll_pz hs
  have a2 := timesAll_sum hs
  have p1 : ∀ t ∈ ss.map List.sum, 1 ≤ t := fun t ht => by
    obtain ⟨p, hp, rfl⟩ := List.mem_map.mp ht
    exact (hs p hp).pos
  have p2 : ∀ t ∈ us.map List.sum, 1 ≤ t := fun t ht => by
    obtain ⟨p, hp, rfl⟩ := List.mem_map.mp ht
    exact (hu p hp).pos
  have ew : List.zipWith (fun (s u : List Int) => s.sum + u.sum) ss us = List.zipWith (fun s u => s + u) (ss.map List.sum) (us.map List.sum) := by rw [List.zipWith_map]
  have w1 := whole_ge (ss := ss.map List.sum) (us := us.map List.sum) (by simpa using hl) p1 p2
  have w2 := whole_gt (ss := ss.map List.sum) (us := us.map List.sum) (by simpa using hl) (by simpa using hne) p1 p2
  have o1 : (oneU (prodI (ss.map List.sum)) (ss.map List.sum) us [0]).sum = one1 (ss.map List.sum) (us.map List.sum) := by
    rw [← P0_one, oneU_P0 _ _ _ _ _ (by simpa using hl)]
    have e : us.map (P0 fun _ => 1) = us.map List.sum := List.map_congr_left fun p _ => P0_one p
    rw [e, sdiv_one1 _ _ p1]
    show (0 : Int) * 1 + 0 + _ = _
    omega
  have o2 : Nn (oneU (prodI (ss.map List.sum)) (ss.map List.sum) us [0]) := oneU_nn (by have := prodI_pos p1; omega) p1 (fun u hu' => (hu u hu').nn) (fun x hx => by rw [List.mem_singleton.mp hx]; decide)
  have o3 := oneU_ne (prodI (ss.map List.sum)) (ss.map List.sum) us [0] (by decide)
  have e1 : (hangs ss us).1 = timesAll ss := rfl
  have e2 : (hangs ss us).2 = plusP (oneU (prodI (ss.map List.sum)) (ss.map List.sum) us [0]) [prodI (List.zipWith (fun s u => s.sum + u.sum) ss us) - (timesAll ss).sum - (oneU (prodI (ss.map List.sum)) (ss.map List.sum) us [0]).sum] := rfl
  have e3 : (hangs ss us).2.sum = prodI (List.zipWith (fun s u => s.sum + u.sum) ss us) - (timesAll ss).sum := by
    rw [e2, plusP_sum]
    simp
    omega
  rw [← ew] at w1 w2
  refine ⟨by rw [e1]; exact a1, ⟨?_, ?_, by rw [e3]; omega⟩, by rw [e1, e3]; omega, by rw [e1]; exact a2⟩
  · rw [e2, plusP_len]
    omega
  · rw [e2]
    refine plusP_nn o2 fun x hx => ?_
    rw [List.mem_singleton.mp hx]
    omega
mutual
/-- dark, burning -/
def T.hung : T → List Int × List Int
  | .lev _ => ([0, 1], [0, 1])
  | .knot w ps => if w then ((hangs (T.burns ps) (T.darks ps)).2, (hangs (T.burns ps) (T.darks ps)).1) else hangs (T.darks ps) (T.burns ps)
def T.darks : List T → List (List Int)
  | [] => []
  | t :: r => t.hung.1 :: T.darks r
def T.burns : List T → List (List Int)
  | [] => []
  | t :: r => t.hung.2 :: T.burns r
end
theorem darks_map : ∀ ps : List T, T.darks ps = ps.map fun t => t.hung.1
  | [] => by rw [T.darks]; rfl
  | t :: r => by rw [T.darks, darks_map r]; rfl
theorem burns_map : ∀ ps : List T, T.burns ps = ps.map fun t => t.hung.2
  | [] => by rw [T.burns]; rfl
  | t :: r => by rw [T.burns, burns_map r]; rfl
end Dl

set_option Elab.async false
set_option maxRecDepth 100000
set_option linter.all false
namespace Dl
structure HB (t : T) : Prop where
  lev : 1 ≤ t.levs.length
  dark : Pz t.hung.1
  burn : Pz t.hung.2
  lenD : t.hung.1.length ≤ t.levs.length + 1
  lenB : t.hung.2.length ≤ t.levs.length + 1
  sum : t.hung.1.sum + t.hung.2.sum = 2 ^ t.levs.length
theorem prodI_pow : ∀ ps : List T, prodI (ps.map fun t => (2 : Int) ^ t.levs.length) = 2 ^ (T.levss ps).length
  | [] => by rw [T.levss]; rfl
  | t :: r => by rw [List.map_cons, prodI_cons, prodI_pow r, T.levss, List.length_append, Int.pow_add]
theorem sum_le : ∀ ps : List T, (∀ t ∈ ps, HB t) → ((ps.map fun t => t.hung.1).map List.length).sum ≤ (T.levss ps).length + ps.length ∧ ((ps.map fun t => t.hung.2).map List.length).sum ≤ (T.levss ps).length + ps.length ∧ ps.length ≤ (T.levss ps).length
  | [], _ => by rw [T.levss]; exact ⟨Nat.le_refl _, Nat.le_refl _, Nat.le_refl _⟩
  | t :: r, h => by
    obtain ⟨a, b, c⟩ := sum_le r fun x hx => h x (List.mem_cons_of_mem _ hx)
    have ht := h t List.mem_cons_self
    have h1 := ht.lenD
    have h2 := ht.lenB
    have h3 := ht.lev
    rw [T.levss, List.length_append, List.map_cons, List.map_cons, List.sum_cons, List.map_cons, List.map_cons, List.sum_cons, List.length_cons]
    omega
theorem lev_le : ∀ {ps : List T} {t : T}, t ∈ ps → t.levs.length ≤ (T.levss ps).length
  | a :: r, t, h => by
    rw [T.levss, List.length_append]
    rcases List.mem_cons.mp h with e | e
    · rw [e]; omega
    · have := lev_le e
      omega
theorem zip_map2 {α : Type} (f g : α → List Int) : ∀ ps : List α, List.zipWith (fun (s u : List Int) => s.sum + u.sum) (ps.map f) (ps.map g) = ps.map fun t => (f t).sum + (g t).sum
  | [] => rfl
  | a :: r => by rw [List.map_cons, List.map_cons, List.zipWith_cons_cons, zip_map2 f g r]; rfl
theorem hangs_len {ss us : List (List Int)} {L : Nat} (hs : ∀ p ∈ ss, Pz p) (h1 : (ss.map List.length).sum ≤ L + ss.length) (h2 : ∀ p ∈ us, p.length ≤ L + 1) : (hangs ss us).1.length ≤ L + 1 ∧ (hangs ss us).2.length ≤ L + 1 := by
  have e1 : (hangs ss us).1 = timesAll ss := rfl
  have e2 : (hangs ss us).2 = plusP (oneU (prodI (ss.map List.sum)) (ss.map List.sum) us [0]) [prodI (List.zipWith (fun s u => s.sum + u.sum) ss us) - (timesAll ss).sum - (oneU (prodI (ss.map List.sum)) (ss.map List.sum) us [0]).sum] := rfl
  have h3 := timesAll_len hs
  have h4 := oneU_len (prodI (ss.map List.sum)) (L + 1) (ss.map List.sum) us [0] (by simp) h2
  refine ⟨by rw [e1]; omega, ?_⟩
  rw [e2, plusP_len]
  simp
  omega
theorem hb_knot {w : Bool} {ps : List T} (hne : ps ≠ []) (h : ∀ t ∈ ps, HB t) : HB (.knot w ps) := by
  obtain ⟨s1, s2, s3⟩ := sum_le ps h
  have pd : ∀ p ∈ ps.map (fun t => t.hung.1), Pz p := fun p hp => by
    obtain ⟨t, ht, rfl⟩ := List.mem_map.mp hp
    exact (h t ht).dark
  have pb : ∀ p ∈ ps.map (fun t => t.hung.2), Pz p := fun p hp => by
    obtain ⟨t, ht, rfl⟩ := List.mem_map.mp hp
    exact (h t ht).burn
  have ld : ∀ p ∈ ps.map (fun t => t.hung.1), p.length ≤ (T.levss ps).length + 1 := fun p hp => by
    obtain ⟨t, ht, rfl⟩ := List.mem_map.mp hp
    have := (h t ht).lenD
    have := lev_le ht
    omega
  have lb : ∀ p ∈ ps.map (fun t => t.hung.2), p.length ≤ (T.levss ps).length + 1 := fun p hp => by
    obtain ⟨t, ht, rfl⟩ := List.mem_map.mp hp
    have := (h t ht).lenB
    have := lev_le ht
    omega
  have hL : (T.knot w ps).levs.length = (T.levss ps).length := by rw [T.levs]
  have hl1 : 1 ≤ (T.levss ps).length := by
    have : ps.length ≠ 0 := fun z => hne (List.eq_nil_of_length_eq_zero z)
    omega
  have z1 : prodI (List.zipWith (fun (s u : List Int) => s.sum + u.sum) (ps.map fun t => t.hung.2) (ps.map fun t => t.hung.1)) = 2 ^ (T.levss ps).length := by
    rw [zip_map2, ← prodI_pow]
    congr 1
    refine List.map_congr_left fun t ht => ?_
    have := (h t ht).sum
    omega
  have z2 : prodI (List.zipWith (fun (s u : List Int) => s.sum + u.sum) (ps.map fun t => t.hung.1) (ps.map fun t => t.hung.2)) = 2 ^ (T.levss ps).length := by
    rw [zip_map2, ← prodI_pow]
    congr 1
    refine List.map_congr_left fun t ht => (h t ht).sum
  cases w with
  | true =>
    have e : (T.knot true ps).hung = ((hangs (T.burns ps) (T.darks ps)).2, (hangs (T.burns ps) (T.darks ps)).1) := by rw [T.hung]; rfl
    rw [burns_map, darks_map] at e
    obtain ⟨a1, a2, a3, a4⟩ := hangs_pz (ss := ps.map fun t => t.hung.2) (us := ps.map fun t => t.hung.1) (by simp) (by simpa using hne) pb pd
    obtain ⟨b1, b2⟩ := hangs_len (L := (T.levss ps).length) pb (by rw [List.length_map]; exact s2) ld
    exact ⟨by rw [hL]; exact hl1, by rw [e]; exact a2, by rw [e]; exact a1, by rw [e, hL]; exact b2, by rw [e, hL]; exact b1, by rw [e, hL, ← z1, ← a3, Int.add_comm]⟩
  | false =>
    have e : (T.knot false ps).hung = hangs (T.darks ps) (T.burns ps) := by rw [T.hung]; rfl
    rw [burns_map, darks_map] at e
    obtain ⟨a1, a2, a3, a4⟩ := hangs_pz (ss := ps.map fun t => t.hung.1) (us := ps.map fun t => t.hung.2) (by simp) (by simpa using hne) pd pb
    obtain ⟨b1, b2⟩ := hangs_len (L := (T.levss ps).length) pd (by rw [List.length_map]; exact s1) lb
    exact ⟨by rw [hL]; exact hl1, by rw [e]; exact a1, by rw [e]; exact a2, by rw [e, hL]; exact b1, by rw [e, hL]; exact b2, by rw [e, hL, ← z2, ← a3]⟩
mutual
theorem hb : ∀ t : T, t.form = true → HB t
  | .lev z, _ => by
    have e : (T.lev z).hung = ([0, 1], [0, 1]) := by rw [T.hung]
    have l : (T.lev z).levs = [z] := by rw [T.levs]
    have p : Pz [0, 1] := ⟨by decide, fun x hx => by simp at hx; omega, by decide⟩
    exact ⟨by rw [l]; exact Nat.le_refl _, by rw [e]; exact p, by rw [e]; exact p, by rw [e, l]; exact Nat.le_refl 2, by rw [e, l]; exact Nat.le_refl 2, by rw [e, l]; rfl⟩
  | .knot w ps, h => by
    rw [T.form, Bool.and_eq_true, Bool.and_eq_true, decide_eq_true_eq, decide_eq_true_eq] at h
    exact hb_knot (fun z => by rw [z] at h; exact absurd h.1.1 (by decide)) (hbs w ps h.2)
theorem hbs : ∀ (w : Bool) (ps : List T), T.forms w ps = true → ∀ t ∈ ps, HB t
  | _, [], _, t, m => nomatch m
  | w, a :: r, h, t, m => by
    rw [T.forms, Bool.and_eq_true, Bool.and_eq_true] at h
    rcases List.mem_cons.mp m with e | m
    · rw [e]; exact hb a h.1.1
    · exact hbs w r h.2 t m
end
theorem bd_of {f g : T → List Int} {ps : List T} (hfg : (f = (fun t => t.hung.1) ∧ g = fun t => t.hung.2) ∨ (f = (fun t => t.hung.2) ∧ g = fun t => t.hung.1)) (hne : ps ≠ []) (h : ∀ t ∈ ps, HB t) (hL : (T.levss ps).length ≤ 30) : Bd (ps.map f) (ps.map g) := by
  obtain ⟨s1, s2, s3⟩ := sum_le ps h
  have p2 : (2 : Int) ^ (T.levss ps).length ≤ 2 ^ 30 := by
    have := Nat.pow_le_pow_right (n := 2) (by decide) hL
    exact_mod_cast this
  have pt : ∀ t ∈ ps, (2 : Int) ^ t.levs.length ≤ 2 ^ 30 := fun t ht => by
    have := Nat.pow_le_pow_right (n := 2) (by decide) (Nat.le_trans (lev_le ht) hL)
    exact_mod_cast this
  have hf : ∀ t ∈ ps, Pz (f t) ∧ Pz (g t) ∧ (g t).length ≤ t.levs.length + 1 ∧ (f t).sum + (g t).sum = 2 ^ t.levs.length := fun t ht => by
    have b := h t ht
    rcases hfg with ⟨rfl, rfl⟩ | ⟨rfl, rfl⟩
    · exact ⟨b.dark, b.burn, b.lenB, b.sum⟩
    · exact ⟨b.burn, b.dark, b.lenD, by rw [Int.add_comm]; exact b.sum⟩
  have hp : ∀ p ∈ ps.map f, Pz p := fun p hp => by
    obtain ⟨t, ht, rfl⟩ := List.mem_map.mp hp
    exact (hf t ht).1
  have hq : ∀ p ∈ ps.map g, Pz p := fun p hp => by
    obtain ⟨t, ht, rfl⟩ := List.mem_map.mp hp
    exact (hf t ht).2.1
  refine ⟨by simp, hp, hq, ?_, ?_, ?_, ?_, ?_⟩
  · rcases hfg with ⟨rfl, rfl⟩ | ⟨rfl, rfl⟩ <;> omega
  · intro p hp
    obtain ⟨t, ht, rfl⟩ := List.mem_map.mp hp
    have := (hf t ht).2.2.1
    have := lev_le ht
    omega
  · intro p hp
    obtain ⟨t, ht, rfl⟩ := List.mem_map.mp hp
    have a := (hf t ht).2.2.2
    have b := (hf t ht).2.1.pos
    have c := pt t ht
    omega
  · intro p hp
    obtain ⟨t, ht, rfl⟩ := List.mem_map.mp hp
    have a := (hf t ht).2.2.2
    have b := (hf t ht).1.pos
    have c := pt t ht
    omega
  · obtain ⟨a1, a2, a3, a4⟩ := hangs_pz (ss := ps.map f) (us := ps.map g) (by simp) (by simpa using hne) hp hq
    have z : prodI (List.zipWith (fun (s u : List Int) => s.sum + u.sum) (ps.map f) (ps.map g)) = 2 ^ (T.levss ps).length := by
      rw [zip_map2, ← prodI_pow]
      congr 1
      exact List.map_congr_left fun t ht => (hf t ht).2.2.2
    have a5 := a2.pos
    rw [z, a4] at a3
    omega
end Dl

set_option Elab.async false
set_option maxRecDepth 100000
set_option maxHeartbeats 4000000
set_option linter.all false
/-! hung_numbers -/
namespace Dl
open PySem L2 Evl Dt
def twoD (p : List Int × List Int) : PyData := .tuple [.list (nums p.1), .list (nums p.2)]
def twoT (p : List Int × List Int) : PyData := .tuple [.tuple (nums p.1), .tuple (nums p.2)]
def selAt (rs : List (Row T)) (sel : List Int × List Int → List Int) : PyData → PyData
  | .int c => ((rs[c.toNat]?).map fun (r : Row T) => PyData.list (nums (sel r.sub.hung))).getD .none
  | _ => .none
/-- small trees -/
structure Sml (t : T) : Prop where
  form : t.form = true
  few : t.levs.length ≤ 30
theorem Sml.part {w : Bool} {ps : List T} (h : Sml (.knot w ps)) : ∀ t ∈ ps, Sml t := fun t ht => by
  have h1 := h.form
  rw [T.form, Bool.and_eq_true] at h1
  have h2 := h.few
  rw [T.levs] at h2
  have := lev_le ht
  exact ⟨(forms_mem h1.2 t ht).1, by omega⟩
theorem dl_ints {K : PySem.W.Frag} {H : Hp} {v : V} {ns : List Int} (h : Dp K H v (.list (nums ns))) : LI K H v ns := by
  obtain ⟨a, xs, rfl, hs, hx⟩ := dp_lst h
  rw [dpa_ints hx] at hs
  exact ⟨a, rfl, hs⟩
theorem ll_of {K : PySem.W.Frag} {H : Hp} {a : Addr} {vs : List V} {pss : List (List Int)} (h : H a = some (.lst vs)) (hv : DpAll K H vs (pss.map fun p => .list (nums p))) : LL K H a vs pss := by
  refine ⟨sq_of h, by have := dpa_len hv; simpa using this, fun i v p h1 h2 => ?_⟩
  obtain ⟨d, hd, hvd⟩ := dpa_got hv h1
  rw [List.getElem?_map, h2] at hd
  cases hd
  exact dl_ints hvd
section
variable {K : PySem.W.Frag} {S : List Addr} {σ : L2.St} {H : Hp} {ta tb te tl : TE} {d : PyData}
theorem edl_rep {n : Nat} (ha : EvDL K S ta σ H [d]) (hb : ∀ H1, Ex H H1 → Ev tb σ H1 (.int (n : Int))) (hn : n ≤ 100000) : EvDL K S (tOp rRep ta tb) σ H (List.replicate n d) := fun H1 e Q q =>
  ha H1 e _ fun p vs H2 hp e2 h2 f => hb H2 (e.trans e2) H2 (Ex.refl H2) _ fun H3 e3 => by
    obtain ⟨v, rfl, hv⟩ := dpa1 f
    refine ⟨p, n, [v], rfl, rfl, e3 _ _ h2, by omega, by omega, by rw [Int.toNat_natCast]; exact sz_of (by simpa using hn), fun r hr => ?_⟩
    refine q r (List.replicate n v) _ (fresh_back (e2.trans e3) hr) ((e2.trans e3).trans (Ex.new hr)) ?_ ?_
    · rw [upd_same, Int.toNat_natCast, flat_one]
    · refine dpa_rep (dp_mono ?_ _ hv) n
      exact (cut_sub fun b hb => List.mem_cons_of_mem _ hb).trans ((cut_mono e3).trans (cut_new_le (Ex.new hr) hr))
/-- tuple(list) -/
theorem ed_tupOf {ns : List Int} {r : List V → Hp → VK → Prop} (D : Dom S H) (h : EvD K S te σ H (.list (nums ns)))
    (hr : ∀ (p : Addr) (ys : List V) H1 (Q : VK), SqL K H1 p ys → (∀ l, H1 l = none → Q (.ref l) (upd H1 l (.tup ys))) → r [.ref p] H1 Q) : EvD K S (tCB r (tCons te tNil)) σ H (.tuple (nums ns)) := fun H1 e Q q =>
  h H1 e _ fun v H2 e2 f => by
    obtain ⟨a, xs, rfl, hs, hx⟩ := dp_lst f
    exact hr a xs H2 Q (ex_l (cut_le S H2) hs) fun l hl => q _ _ (e2.trans (Ex.new hl)) (dp_newT (D.mono (e.trans e2)) hl hx)
end
section
variable {P : Program} {w : World} {K : PySem.W.Frag} {mg : Str → Option Value} {base : Heap} {f C : Addr} {fd : FuncData} {τ : Type}
def spHung (K : PySem.W.Frag) : Sp := fun vs H Q _ => ∃ (S : List Addr) (v : V) (t0 : T), vs = [v] ∧ Dom S H ∧ Dp K (cut S H) v t0.d ∧ Good t0 ∧ t0.levs.length ≤ 30 ∧ ∀ u H', Ex H H' → Dp K (cut S H') u (twoT t0.hung) → Q u H'
abbrev s_hung_numbers : Stmt := topS 30
abbrev N_hung_numbers : List Str := ["tree", "walk", "found", "row", "dark", "burning", "burns", "darkens", "part"]
theorem sc_hung_numbers : FnScope N_hung_numbers ["tree"] (defScope s_hung_numbers) := ⟨rfl, rfl, rfl, by decide +kernel, rfl, by decide +kernel, by decide +kernel⟩

theorem ok_hung_numbers (F : Fun K "hung_numbers" "hung_numbers" s_hung_numbers f fd) (Z : WT K C) (T : Nm mg) (h_tree_walk : Has P w K mg base 5 "tree_walk" ["value"] (spTree K C)) (h_inner_first : Has P w K mg base 1 "inner_first" ["walk"] (spInner C)) (h_knot_hangs : Has P w K mg base 2 "knot_hangs" ["same", "unlike"] (spKnot K)) :
    FnOk P w K mg base CX0 6 f fd ["tree"] (spHung K) := by
  refine F.ok sc_hung_numbers (fun vs H Q E h => ?_) (fun cdv A' outer s H vs Q E hr h => ?_)
  · obtain ⟨S, v, t0, rfl, _⟩ := h
    rfl
  · obtain ⟨S, v, t0, rfl, D, hv, G0, h30, k⟩ := h
    have nd := sc_hung_numbers.nd
    refine ⟨_, (pss_cons (ps_set (i := 1) nd rfl (Or.inl rfl) (pe_has h_tree_walk (hr.mono (by first | decide | omega)) (pa_cons (pv 0) pa_nil)))
  (pss_cons (ps_set (i := 2) nd rfl (Or.inr rfl) (pe_op op_rep (pe_lst (pa_cons (pe_tup (pa_cons (pe_lst (pa_cons pe_int (pa_cons pe_int pa_nil))) (pa_cons (pe_lst (pa_cons pe_int (pa_cons pe_int pa_nil))) pa_nil))) pa_nil)) (pe_callB call_len_seq (by rfl) T.n_len (by decide +kernel) (pa_cons (pe_fld (pv 1) rfl) pa_nil))))
  (pss_cons (ps_for PassesOwn.never rfl (pi_list (pe_has h_inner_first (hr.mono (by first | decide | omega)) (pa_cons (pv 1) pa_nil))) (pg_name (i := 3) nd rfl (Or.inl rfl)) (pss_one (ps_if (pt_truth (pe_ix ix_list (pe_fld (pv 1) rfl) (pv 3) (fun _ _ => rfl)) (by intro _; rfl)) (pss_cons (ps_setLc (i := 4) (own := [("part", 8)]) rfl nd rfl rfl (sw_true rfl rfl rfl (by decide +kernel)) (pi_list (pe_ix ix_list (pe_fld (pv 1) rfl) (pv 3) (fun _ _ => rfl))) (blkOk_by (own := [("part", 8)]) (N := N_hung_numbers) (sc := defScope s_hung_numbers) (by decide +kernel)) (fun _ _ _ _ _ => (pg_name (i := 8) nd rfl (Or.inl rfl))) (fun _ _ _ _ _ => pts_nil) (fun _ _ _ _ _ => (pe_ix (show IxR _ (rIxT K) from ix_tup) (pe_ix (show IxR _ (rIxL K) from ix_list) (pv 2) (pv 8) (fun _ _ => rfl)) pe_int (fun _ _ => rfl))))
  (pss_cons (ps_setLc (i := 5) (own := [("part", 8)]) rfl nd rfl rfl (sw_true rfl rfl rfl (by decide +kernel)) (pi_list (pe_ix ix_list (pe_fld (pv 1) rfl) (pv 3) (fun _ _ => rfl))) (blkOk_by (own := [("part", 8)]) (N := N_hung_numbers) (sc := defScope s_hung_numbers) (by decide +kernel)) (fun _ _ _ _ _ => (pg_name (i := 8) nd rfl (Or.inl rfl))) (fun _ _ _ _ _ => pts_nil) (fun _ _ _ _ _ => (pe_ix (show IxR _ (rIxT K) from ix_tup) (pe_ix (show IxR _ (rIxL K) from ix_list) (pv 2) (pv 8) (fun _ _ => rfl)) pe_int (fun _ _ => rfl))))
  (pss_cut (ps_if (pt_cmpR op_eq (pe_ix ix_list (pe_fld (pv 1) rfl) (pv 3) (fun _ _ => rfl)) pe_str (nomark _)) (pss_one (ps_asg (pe_has h_knot_hangs (hr.mono (by first | decide | omega)) (pa_cons (pv 5) (pa_cons (pv 4) pa_nil))) (pg_tup rfl (pgs_cons (pg_name (i := 6) nd rfl (Or.inl rfl)) (pgs_cons (pg_name (i := 7) nd rfl (Or.inl rfl)) pgs_nil))))) (pss_one (ps_asg (pe_has h_knot_hangs (hr.mono (by first | decide | omega)) (pa_cons (pv 4) (pa_cons (pv 5) pa_nil))) (pg_tup rfl (pgs_cons (pg_name (i := 7) nd rfl (Or.inl rfl)) (pgs_cons (pg_name (i := 6) nd rfl (Or.inl rfl)) pgs_nil))))))
  (pss_one (ps_asg (pe_tup (pa_cons (pv 7) (pa_cons (pv 6) pa_nil))) (pg_sub (pv 2) (pv 3) set_list)))))) pss_nil)))
  (pss_one (ps_ret (pe_tup (pa_cons (pe_callTy call_tuple_of (by rfl) T.n_tuple (by decide +kernel) (pa_cons (pe_ix ix_tup (pe_ix ix_list (pv 2) pe_int (fun _ _ => rfl)) pe_int (fun _ _ => rfl)) pa_nil)) (pa_cons (pe_callTy call_tuple_of (by rfl) T.n_tuple (by decide +kernel) (pa_cons (pe_ix ix_tup (pe_ix ix_list (pv 2) pe_int (fun _ _ => rfl)) pe_int (fun _ _ => rfl)) pa_nil)) pa_nil)))))))), ?_⟩
    refine ⟨_, rfl, S, v, t0, rfl, D, hv, G0, fun H1 A n rs kvs W R e1 new => ?_⟩
    have hrs := rdg_small R G0.few G0.size
    have sml := rows_all R (Pr := Sml) ⟨G0.form, h30⟩ fun w ps h => h.part
    have D1 := D.mono e1
    -- found
    have wlen : ∀ Hx, Ex H1 Hx → Ev (tCB (rLenS K) (tCons (tFld K (tVar 1) "words") tNil)) [some v, some (.ref A.a), none, none, none, none, none, none, none] Hx (.int (rs.length : Int)) := fun Hx e => by
      have := ev_len (K := K) (ev_words Z (wk_mono W e) (ev_var (σ := [some v, some (.ref A.a), none, none, none, none, none, none, none]) (i := 1) rfl)) (sq_of (wk_mono W e).hw)
      rwa [List.length_map] at this
    have two : EvDA K S (tCons (tC (.int 0)) (tCons (tC (.int 1)) tNil)) [some v, some (.ref A.a), none, none, none, none, none, none, none] H1 [.int 0, .int 1] := eda_cons ed_int (eda_cons ed_int eda_nil)
    have lst2 : EvD K S (tLst (tCons (tC (.int 0)) (tCons (tC (.int 1)) tNil))) [some v, some (.ref A.a), none, none, none, none, none, none, none] H1 (.list (nums [0, 1])) := (edl_lst two (show 2 ≤ 100000 by decide)).ed D1
    refine qd_asgL (K := K) (S := S) (edl_rep (n := rs.length) (d := twoD ([0, 1], [0, 1])) (edl_lst (eda_cons (ed_tup D1 (eda_cons lst2 (eda_cons lst2 eda_nil)) (show 2 ≤ 100000 by decide)) eda_nil) (show 1 ≤ 100000 by decide)) wlen (by omega)) fun l us H2 hl e2 h2 f2 => ?_
    have e12 := e1.trans e2
    have W2 := wk_mono W e2
    have hlH := fresh_back e1 hl
    let old : Row Dl.T → PyData := fun _ => twoD ([0, 1], [0, 1])
    let new' : Row Dl.T → PyData := fun r => twoD r.sub.hung
    have D2 : Dom (l :: S) H2 := (D1.mono e2).cons h2
    have lnA : ∀ b ∈ A.all, b ≠ l := fun b hb z => wk_dom W b hb (by rw [z]; exact hl)
    refine q_forNLn (j := 3) (el_inner W2 (ev_var (i := 1) rfl) (by omega)) (fun p i σ' G => ∃ us x3 x4 x5 x6 x7, σ' = [some v, some (.ref A.a), some (.ref l), x3, x4, x5, x6, x7, none] ∧ Ex H1 G ∧ G p = some (.lst (revV rs.length)) ∧ p ≠ l ∧ G l = some (.lst us) ∧ DpAll K (cut (l :: S) G) us (cells rs old new' i) ∧ Dom (l :: S) G)
      (fun p H3 hp e3 h3 => ⟨us, none, none, none, none, none, rfl, e2.trans e3, h3, fun z => (by rw [z, h2] at hp; cases hp), e3 _ _ h2, ?_, D2.mono e3⟩)
      (fun p i σ' G _ ⟨_, _, _, _, _, _, _, _, h, _⟩ => sq_of h) ?_ ?_
    · rw [cells_0]
      have : rs.map old = List.replicate rs.length (twoD ([0, 1], [0, 1])) := by
        refine List.ext_getElem? fun j => ?_
        rw [List.getElem?_map, List.getElem?_replicate]
        by_cases hj : j < rs.length
        · rw [if_pos hj, List.getElem?_eq_getElem hj]; rfl
        · rw [if_neg hj, List.getElem?_eq_none_iff.mpr (by omega)]; rfl
      rw [this]
      exact dpa_mono (cut_mono e3) _ f2
    · rintro p i x σ' G hx ⟨us, x3, x4, x5, x6, x7, rfl, eG, hpG, hpl, hlG, hdG, DG⟩
      have hi : i < rs.length := by
        have := (List.getElem?_eq_some_iff.mp hx).1
        rwa [revV_length] at this
      rw [revV_get hi] at hx
      cases hx
      have WG := wk_mono W eG
      obtain ⟨q, r, hq, hr'⟩ := get_ps W.len (i := rs.length - 1 - i) (by omega)
      have hqG := WG.hq _ q r hq hr'
      have hul : us.length = rs.length := by rw [dpa_len hdG, cells_len]
      show tIfS _ _ _ _ [some v, some (.ref A.a), some (.ref l), some (.int ((rs.length - 1 - i : Nat) : Int)), x4, x5, x6, x7, none] G
      refine s_when (et_truL (ev_part Z WG (ev_var (i := 1) rfl) (ev_var (i := 3) rfl) hq) (sq_of hqG)) (fun hb G1 e3 => ?_) (fun hb G1 e3 => ?_)
      · cases hs : r.sub with
        | lev z =>
          rw [(row_lev R hr' hs).2.2] at hb
          cases hb
        | knot w ps =>
          have WG1 := wk_mono WG e3
          have hlG1 := e3 _ _ hlG
          have hdG1 := dpa_mono (cut_mono e3) _ hdG
          have DG1 := DG.mono e3
          obtain ⟨k1, k2⟩ := row_kids R hr' hs
          obtain ⟨kw, _, k3, k4⟩ := row_knot R hr' hs
          have sm := sml _ r hr'
          rw [hs] at sm
          have hform := sm.form
          have hfew := sm.few
          rw [Dl.T.levs] at hfew
          rw [Dl.T.form, Bool.and_eq_true] at hform
          have hpb := hbs w ps hform.2
          have hpne : ps ≠ [] := fun z => by rw [z] at k3; exact absurd k3 (by decide)
          -- the numbers of the parts
          have hlc : ∀ (sel : List Int × List Int → List Int) (idx : Int), (∀ p : List Int × List Int, atI [PyData.list (nums p.1), .list (nums p.2)] idx = some (.list (nums (sel p)))) → ∀ (y4 y5 : Option V) (G2 : Hp), Ex G1 G2 →
              EvDL K (l :: S) (tLc (iList K (tOp (rIxL K) (tFld K (tVar 1) "parts") (tVar 3))) (gName 8) tYes (tOp (rIxT K) (tOp (rIxL K) (tVar 2) (tVar 8)) (tC (.int idx))) [8])
                [some v, some (.ref A.a), some (.ref l), some (.int ((rs.length - 1 - i : Nat) : Int)), y4, y5, x6, x7, none] G2 (ps.map fun t => .list (nums (sel t.hung))) := fun sel idx hidx y4 y5 G2 e4 => by
            have W2' := wk_mono WG1 e4
            have hq2 := e4 _ _ (e3 _ _ hqG)
            have h1 := edl_lcL (K := K) (S := l :: S) (σ := [some v, some (.ref A.a), some (.ref l), some (.int ((rs.length - 1 - i : Nat) : Int)), y4, y5, x6, x7, none]) (H := G2) (j := 8) (vs := [8]) (t := tYes) (te := tOp (rIxT K) (tOp (rIxL K) (tVar 2) (tVar 8)) (tC (.int idx)))
              (ds := nums (r.parts.map fun (c : Nat) => (c : Int))) (fun _ => true) (selAt rs sel)
              (DG1.mono e4) (ev_part Z W2' (ev_var (i := 1) rfl) (ev_var (i := 3) rfl) hq) (sq_of hq2) (by have := nums_dpa (K := K) (H := cut (l :: S) G2) (r.parts.map fun (c : Nat) => (c : Int)); rwa [List.map_map] at this)
              (by unfold nums; rw [List.length_map, List.length_map]; omega) (fun x => rfl) (fun d v S' H1 _ _ _ _ _ => et_none) (fun d u S' H1 e5 c5 D5 hm hd _ => by
                obtain ⟨c', hc', rfl⟩ := List.mem_map.mp hm
                obtain ⟨c, hc, rfl⟩ := List.mem_map.mp hc'
                obtain ⟨j, hj⟩ := List.mem_iff_getElem?.mp hc
                obtain ⟨b1, b2, rc, pc, a1, a2, a3, _⟩ := k2 j c hj
                have hat : atI (cells rs old new' i) ((c : Nat) : Int) = some (twoD rc.sub.hung) := atI_nat (by rw [cells_get a1, if_pos (by omega)])
                refine ed_is (ed_ixT (ds := [.list (nums rc.sub.hung.1), .list (nums rc.sub.hung.2)]) (d := .list (nums (sel rc.sub.hung))) (ed_ixM (ev_var (i := 2) rfl) (e5 _ _ (e4 _ _ hlG1)) (dpa_mono ((cut_mono e4).trans c5) _ hdG1) (ed_var (i := 8) rfl hd) hat) ed_int (hidx _)) ?_
                show PyData.list (nums (sel rc.sub.hung)) = (((rs[((c : Nat) : Int).toNat]?).map fun (r : Row Dl.T) => PyData.list (nums (sel r.sub.hung))).getD .none)
                rw [Int.toNat_natCast, a1]
                rfl)
            have e : ((nums (r.parts.map fun (c : Nat) => (c : Int))).filter fun _ => true).map (selAt rs sel) = ps.map fun t => .list (nums (sel t.hung)) := by
              rw [List.filter_eq_self.mpr fun _ _ => rfl]
              unfold nums
              rw [List.map_map, List.map_map]
              refine List.ext_getElem? fun j => ?_
              rw [List.getElem?_map, List.getElem?_map]
              cases hj : r.parts[j]? with
              | none =>
                have := List.getElem?_eq_none_iff.mp hj
                rw [List.getElem?_eq_none_iff.mpr (by omega)]
                rfl
              | some c =>
                obtain ⟨_, _, rc, pc, a1, a2, a3, _⟩ := k2 j c hj
                rw [a2]
                show some (((rs[((c : Nat) : Int).toNat]?).map fun (r : Row Dl.T) => PyData.list (nums (sel r.sub.hung))).getD .none) = some (.list (nums (sel pc.hung)))
                rw [Int.toNat_natCast, a1, ← a3]
                rfl
            rw [e] at h1
            exact h1
          refine qd_asgL (hlc (·.1) 0 (fun p => rfl) x4 x5 G1 (Ex.refl G1)) fun a4 v4 G2 h4n e4 h4 f4 => ?_
          refine qd_asgL (hlc (·.2) 1 (fun p => rfl) (some (.ref a4)) x5 G2 e4) fun a5 v5 G3 h5n e5 h5 f5 => ?_
          have L4 : LL K G3 a4 v4 (ps.map fun t => t.hung.1) := LL.mono e5 (ll_of h4 (by rw [List.map_map]; exact dpa_mono (cut_le _ _) _ f4))
          have L5 : LL K G3 a5 v5 (ps.map fun t => t.hung.2) := ll_of h5 (by rw [List.map_map]; exact dpa_mono (cut_le _ _) _ f5)
          have e13 := e4.trans e5
          have W3 := wk_mono WG1 e13
          refine q_cut (M := fun σ' H' => ∃ x y, σ' = [some v, some (.ref A.a), some (.ref l), some (.int ((rs.length - 1 - i : Nat) : Int)), some (.ref a4), some (.ref a5), some (.ref y), some (.ref x), none] ∧ Ex G1 H' ∧ H' x = some (.lst ((Dl.T.knot w ps).hung.1.map V.int)) ∧ H' y = some (.lst ((Dl.T.knot w ps).hung.2.map V.int)) ∧ G1 x = none ∧ G1 y = none) ?_ ?_
          · refine s_if (et_test (ev_op (ev_ixV (ev_words Z W3 (ev_var (i := 1) rfl)) (sq_of W3.hw) (ev_var (i := 3) rfl) (atI_map hr')) ev_c (rv_eq rfl))) (fun hb G4 e6 => ?_) (fun hb G4 e6 => ?_)
            · have hw : w = true := by
                cases w with
                | true => rfl
                | false =>
                  rw [kw] at hb
                  exact absurd (of_decide_eq_true hb) (fun z => absurd (V.str.inj z) (by decide +kernel))
              subst hw
              refine ⟨_, rfl, _, rfl, a5, a4, v5, v4, _, _, rfl, L5.mono e6, L4.mono e6, bd_of (.inr ⟨rfl, rfl⟩) hpne hpb hfew, fun p x y H4 hp e7 h7 hx hy hxn hyn => ⟨p, [.ref x, .ref y], rfl, st_of h7, rfl, .ref x, [.ref y], rfl, .ref y, [], rfl, rfl, ?_⟩⟩
              have eh : (Dl.T.knot true ps).hung = ((hangs (Dl.T.burns ps) (Dl.T.darks ps)).2, (hangs (Dl.T.burns ps) (Dl.T.darks ps)).1) := by rw [Dl.T.hung]; rfl
              rw [burns_map, darks_map] at eh
              exact ⟨y, x, rfl, e13.trans (e6.trans e7), by rw [eh]; exact hy, by rw [eh]; exact hx, fresh_back (e13.trans e6) hyn, fresh_back (e13.trans e6) hxn⟩
            · have hw : w = false := by
                cases w with
                | false => rfl
                | true =>
                  rw [kw] at hb
                  exact absurd rfl (of_decide_eq_false hb)
              subst hw
              refine ⟨_, rfl, _, rfl, a4, a5, v4, v5, _, _, rfl, L4.mono e6, L5.mono e6, bd_of (.inl ⟨rfl, rfl⟩) hpne hpb hfew, fun p x y H4 hp e7 h7 hx hy hxn hyn => ⟨p, [.ref x, .ref y], rfl, st_of h7, rfl, .ref x, [.ref y], rfl, .ref y, [], rfl, rfl, ?_⟩⟩
              have eh : (Dl.T.knot false ps).hung = hangs (Dl.T.darks ps) (Dl.T.burns ps) := by rw [Dl.T.hung]; rfl
              rw [burns_map, darks_map] at eh
              exact ⟨x, y, rfl, e13.trans (e6.trans e7), by rw [eh]; exact hx, by rw [eh]; exact hy, fresh_back (e13.trans e6) hxn, fresh_back (e13.trans e6) hyn⟩
          · rintro σ' H' ⟨x, y, rfl, eH, hx, hy, hxn, hyn⟩
            refine (eu_tup (σ := [some v, some (.ref A.a), some (.ref l), some (.int ((rs.length - 1 - i : Nat) : Int)), some (.ref a4), some (.ref a5), some (.ref y), some (.ref x), none]) (ea_cons (ev_var (i := 7) rfl) (ea_cons (ev_var (i := 6) rfl) ea_nil)) (show 2 ≤ 100000 by decide)) H' (Ex.refl H') _ fun q' H5 hq' e7 h7 => ?_
            have eG5 := eH.trans e7
            have hl5 := eG5 _ _ hlG1
            have D5 := DG1.mono eG5
            have nS : ∀ {b : Addr}, G1 b = none → b ∉ l :: S := fun h z => DG1 _ z h
            refine ⟨_, rfl, _, rfl, l, us, _, rs.length - 1 - i, rfl, rfl, hl5, ixN_nat (by omega), ?_⟩
            refine ⟨us.set (rs.length - 1 - i) (.ref q'), _, _, _, _, _, rfl, Ex.mut (eG.trans (e3.trans eG5)) hl, (upd_ne hpl).trans (eG5 _ _ (e3 _ _ hpG)), hpl, upd_same, ?_, D5.upd⟩
            rw [cut_upd List.mem_cons_self, ← cells_set hi hr']
            refine dpa_set _ (dpa_mono (cut_mono eG5) _ hdG1) ?_
            show Dp K (cut (l :: S) H5) (.ref q') (twoD r.sub.hung)
            rw [hs]
            refine .tup (st_of ((cut_out (nS (fresh_back eH hq'))).trans h7)) (.cons (.lst (sq_of ((cut_out (nS hxn)).trans (e7 _ _ hx))) (nums_dpa _)) (.cons (.lst (sq_of ((cut_out (nS hyn)).trans (e7 _ _ hy))) (nums_dpa _)) .nil))
      · cases hs : r.sub with
        | knot w ps =>
          obtain ⟨k1, _⟩ := row_kids R hr' hs
          have k3 := (row_knot R hr' hs).2.2.1
          have : r.parts = [] := by
            cases hp : r.parts with
            | nil => rfl
            | cons a b => rw [hp] at hb; cases hb
          rw [this] at k1
          simp at k1
          omega
        | lev z =>
          refine ⟨us, _, _, _, _, _, rfl, eG.trans e3, e3 _ _ hpG, hpl, e3 _ _ hlG, ?_, DG.mono e3⟩
          rw [← cells_same hi hr' (show old r = new' r by show twoD _ = twoD _; rw [hs, Dl.T.hung])]
          exact dpa_mono (cut_mono e3) _ hdG
    · rintro p σ' G ⟨us, x3, x4, x5, x6, x7, rfl, eG, hpG, hpl, hlG, hdG, DG⟩
      rw [revV_length, cells_all] at hdG
      obtain ⟨r0, hr0, hs0⟩ := row0 R
      have hdS : DpAll K (cut S G) us (rs.map new') := dpa_mono (cut_sub fun b hb => List.mem_cons_of_mem _ hb) _ hdG
      have hat : atI (rs.map new') ((0 : Nat) : Int) = some (twoD t0.hung) := atI_nat (by rw [List.getElem?_map, hr0, ← hs0]; rfl)
      have c0 : EvD K S (tOp (rIxL K) (tVar 2) (tC (.int 0))) [some v, some (.ref A.a), some (.ref l), x3, x4, x5, x6, x7, none] G (twoD t0.hung) := ed_ixM (ev_var (i := 2) rfl) hlG hdS ed_int hat
      have DS := D1.mono eG
      have c1 := ed_ixT (ds := [.list (nums t0.hung.1), .list (nums t0.hung.2)]) (d := .list (nums t0.hung.1)) c0 (ed_int (i := 0)) rfl
      have c2 := ed_ixT (ds := [.list (nums t0.hung.1), .list (nums t0.hung.2)]) (d := .list (nums t0.hung.2)) c0 (ed_int (i := 1)) rfl
      refine sd_ret (ed_tup DS (eda_cons (ed_tupOf DS c1 fun p ys H1 Q hs hk => ⟨p, ys, rfl, .inl ⟨hs, hk⟩⟩) (eda_cons (ed_tupOf DS c2 fun p ys H1 Q hs hk => ⟨p, ys, rfl, .inl ⟨hs, hk⟩⟩) eda_nil)) (show 2 ≤ 100000 by decide)) fun u G2 e2' hd => k u G2 (e1.trans (eG.trans e2')) hd
end
end Dl

set_option Elab.async false
set_option maxRecDepth 100000
set_option linter.all false
/-! how many settings: dark, burning -/
namespace Dl
def cnt (t : T) : Int × Int := (t.hung.1.sum, t.hung.2.sum)
theorem cnt_lev (z : Nat) : cnt (.lev z) = (1, 1) := by unfold cnt; rw [T.hung]; rfl
theorem cnt_knot {w : Bool} {ps : List T} (h : (T.knot w ps).form = true) :
    cnt (.knot w ps) = (let whole := prodI (ps.map fun t => (cnt t).1 + (cnt t).2); let burning := if w then prodI (ps.map fun t => (cnt t).2) else whole - prodI (ps.map fun t => (cnt t).1); (whole - burning, burning)) := by
  rw [T.form, Bool.and_eq_true, Bool.and_eq_true, decide_eq_true_eq, decide_eq_true_eq] at h
  have hp := hbs w ps h.2
  have hne : ps ≠ [] := fun z => by rw [z] at h; exact absurd h.1.1 (by decide)
  have pd : ∀ p ∈ ps.map (fun t => t.hung.1), Pz p := fun p hp' => by
    obtain ⟨t, ht, rfl⟩ := List.mem_map.mp hp'
    exact (hp t ht).dark
  have pb : ∀ p ∈ ps.map (fun t => t.hung.2), Pz p := fun p hp' => by
    obtain ⟨t, ht, rfl⟩ := List.mem_map.mp hp'
    exact (hp t ht).burn
  cases w with
  | true =>
    have e : (T.knot true ps).hung = ((hangs (T.burns ps) (T.darks ps)).2, (hangs (T.burns ps) (T.darks ps)).1) := by rw [T.hung]; rfl
    rw [burns_map, darks_map] at e
    obtain ⟨_, _, a3, a4⟩ := hangs_pz (ss := ps.map fun t => t.hung.2) (us := ps.map fun t => t.hung.1) (by simp) (by simpa using hne) pb pd
    have z : prodI (ps.map fun t => (cnt t).1 + (cnt t).2) = prodI (ps.map fun t => t.hung.2.sum + t.hung.1.sum) := by
      congr 1
      exact List.map_congr_left fun t _ => Int.add_comm _ _
    have z2 : prodI (ps.map fun t => (cnt t).2) = prodI ((ps.map fun t => t.hung.2).map List.sum) := by rw [List.map_map]; rfl
    rw [zip_map2] at a3
    show cnt _ = (prodI (ps.map fun t => (cnt t).1 + (cnt t).2) - prodI (ps.map fun t => (cnt t).2), prodI (ps.map fun t => (cnt t).2))
    have h1 : (cnt (.knot true ps)).1 = (hangs (ps.map fun t => t.hung.2) (ps.map fun t => t.hung.1)).2.sum := by unfold cnt; rw [e]
    have h2 : (cnt (.knot true ps)).2 = (hangs (ps.map fun t => t.hung.2) (ps.map fun t => t.hung.1)).1.sum := by unfold cnt; rw [e]
    refine Prod.ext ?_ ?_
    · show (cnt _).1 = _ - _
      omega
    · show (cnt _).2 = _
      omega
  | false =>
    have e : (T.knot false ps).hung = hangs (T.darks ps) (T.burns ps) := by rw [T.hung]; rfl
    rw [burns_map, darks_map] at e
    obtain ⟨_, _, a3, a4⟩ := hangs_pz (ss := ps.map fun t => t.hung.1) (us := ps.map fun t => t.hung.2) (by simp) (by simpa using hne) pd pb
    have z2 : prodI (ps.map fun t => (cnt t).1) = prodI ((ps.map fun t => t.hung.1).map List.sum) := by rw [List.map_map]; rfl
    rw [zip_map2] at a3
    show cnt _ = (prodI (ps.map fun t => (cnt t).1 + (cnt t).2) - (prodI (ps.map fun t => (cnt t).1 + (cnt t).2) - prodI (ps.map fun t => (cnt t).1)), prodI (ps.map fun t => (cnt t).1 + (cnt t).2) - prodI (ps.map fun t => (cnt t).1))
    have z : prodI (ps.map fun t => (cnt t).1 + (cnt t).2) = prodI (ps.map fun t => t.hung.1.sum + t.hung.2.sum) := rfl
    have h1 : (cnt (.knot false ps)).1 = (hangs (ps.map fun t => t.hung.1) (ps.map fun t => t.hung.2)).1.sum := by unfold cnt; rw [e]
    have h2 : (cnt (.knot false ps)).2 = (hangs (ps.map fun t => t.hung.1) (ps.map fun t => t.hung.2)).2.sum := by unfold cnt; rw [e]
    refine Prod.ext ?_ ?_
    · show (cnt _).1 = _ - (_ - _)
      omega
    · show (cnt _).2 = _ - _
      omega
theorem cnt_bound {t : T} (h : t.form = true) (h30 : t.levs.length ≤ 30) : 1 ≤ (cnt t).1 ∧ 1 ≤ (cnt t).2 ∧ (cnt t).1 + (cnt t).2 ≤ 1073741824 := by
  have b := hb t h
  have p := Nat.pow_le_pow_right (n := 2) (by decide) h30
  have p2 : (2 : Int) ^ t.levs.length ≤ 2 ^ 30 := by exact_mod_cast p
  have h1 := b.sum
  have h2 := b.dark.pos
  have h3 := b.burn.pos
  unfold cnt
  exact ⟨h2, h3, by show t.hung.1.sum + t.hung.2.sum ≤ _; omega⟩
end Dl

set_option Elab.async false
set_option maxRecDepth 100000
set_option maxHeartbeats 2000000
set_option linter.all false
namespace Dt
open PySem L2 Evl
section
variable {K : PySem.W.Frag} {S : List Addr} {σ : L2.St} {H H' : Hp} {ta tb te tl : TE} {t : TT} {D : Ends} {tz tu tw : TS} {v : V} {α β : Type}
/-- [e for x, y in list]: pairs -/
theorem el_lcT2 {l : Addr} {xs : List V} {zs : List α} {a b : Nat} {vs : List Nat} (p1 p2 : α → V) (g : α → V) (h : Ev tl σ H (.ref l)) (hx : SqL K H l xs) (hlen : xs.length = zs.length)
    (hp : ∀ (i : Nat) (x : V) (z : α), xs[i]? = some x → zs[i]? = some z → ∃ p, x = .ref p ∧ SqT K H p [p1 z, p2 z]) (hz : xs.length ≤ 40000) (hw : ∀ x y, wipe (((wipe σ vs).set a (some x)).set b (some y)) vs = wipe σ vs)
    (he : ∀ (z : α) H1, Ex H H1 → z ∈ zs → Ev te (((wipe σ vs).set a (some (p1 z))).set b (some (p2 z))) H1 (g z)) :
    EvL (tLc (iList K tl) (gTup K 2 (gCons (gName a) (gCons (gName b) gNil))) tYes te vs) σ H (zs.map g) := fun H0 e Q k =>
  h H0 e _ fun H1 e1 => ⟨l, rfl, ⟨xs, ex_l (e.trans e1) hx⟩, fun Dl hD => by
    have e01 := e.trans e1
    refine lc_list (xs := xs) (fun (i : Nat) (G : Hp) => Ex H1 G ∧ G Dl = some (.lst ((zs.take i).map g))) ⟨Ex.new hD, upd_same⟩ (fun i G _ p => ex_l (e01.trans p.1) hx) (fun i x G hi p => ?_) (fun G p => ?_)
    · obtain ⟨eG, hG⟩ := p
      have hil := (List.getElem?_eq_some_iff.mp hi).1
      have hzi : zs[i]? = some (zs[i]'(by omega)) := List.getElem?_eq_getElem (by omega)
      obtain ⟨p, rfl, hpt⟩ := hp i x _ hi hzi
      refine ⟨p, _, rfl, ex_t (e01.trans eG) hpt, rfl, _, [_], rfl, _, [], rfl, rfl, hw _ _, ?_⟩
      show tYes _ _ _
      show te _ _ _
      refine he _ G (e01.trans eG) (List.mem_of_getElem? hzi) G (Ex.refl G) _ fun H4 e4 => ⟨_, e4 _ _ hG, sz_lt (by rw [List.length_map, List.length_take]; omega), Ex.mut (eG.trans e4) hD, ?_⟩
      rw [upd_same, List.take_succ, hzi, List.map_append]
      rfl
    · obtain ⟨eG, hG⟩ := p
      rw [hlen, List.take_length] at hG
      exact k Dl G (fresh_back e1 hD) (e1.trans eG) hG⟩
end
end Dt

set_option Elab.async false
set_option maxRecDepth 100000
set_option maxHeartbeats 4000000
set_option linter.all false
/-! ways_by_row -/
namespace Dl
open PySem L2 Evl Dt
def pairD (p : Int × Int) : PyData := .tuple [.int p.1, .int p.2]
theorem dp_pair {K : PySem.W.Frag} {H : Hp} {v : V} {p : Int × Int} (h : Dp K H v (pairD p)) : ∃ a, v = .ref a ∧ SqT K H a [.int p.1, .int p.2] := by
  obtain ⟨a, xs, rfl, hs, hx⟩ := dp_tup h
  obtain ⟨x, y, rfl, hx1, hx2⟩ := dpa2 hx
  rw [dp_int hx1, dp_int hx2] at hs
  exact ⟨a, rfl, hs⟩
def pairAt (rs : List (Row T)) : PyData → PyData
  | .int c => ((rs[c.toNat]?).map fun (r : Row T) => pairD (cnt r.sub)).getD .none
  | _ => .none
section
variable {P : Program} {w : World} {K : PySem.W.Frag} {mg : Str → Option Value} {base : Heap} {f C : Addr} {fd : FuncData} {τ : Type}
def spWays (K : PySem.W.Frag) (C : Addr) : Sp := fun vs H Q _ => ∃ (S : List Addr) (A : WAd) (n : Int) (t0 : T) (rs : List (Row T)) (kvs : List (Key × V)) (u : V), vs = [.ref A.a, u] ∧ WkAt C H A n rs kvs ∧ Rdg t0 rs n kvs [] ∧ rs.length ≤ 1000 ∧ Good t0 ∧ t0.levs.length ≤ 30 ∧ Dom S H ∧
  Dp K (cut S H) u (.list (List.replicate t0.levs.length (pairD (1, 1)))) ∧ ∀ p ws H', H p = none → Ex H H' → H' p = some (.lst ws) → DpAll K (cut (p :: S) H') ws (rs.map fun r => pairD (cnt r.sub)) → Q (.ref p) H'
abbrev s_ways_by_row : Stmt := topS 25
abbrev N_ways_by_row : List Str := ["walk", "ways", "found", "row", "parts", "whole", "burning", "part", "dark", "way"]
theorem sc_ways_by_row : FnScope N_ways_by_row ["walk", "ways"] (defScope s_ways_by_row) := ⟨rfl, rfl, rfl, by decide +kernel, rfl, by decide +kernel, by decide +kernel⟩

theorem ok_ways_by_row (F : Fun K "ways_by_row" "ways_by_row" s_ways_by_row f fd) (Z : WT K C) (T : Nm mg) (h_inner_first : Has P w K mg base 1 "inner_first" ["walk"] (spInner C)) (h_product_of : Has P w K mg base 1 "product_of" ["numbers"] (spProd K)) :
    FnOk P w K mg base CX0 2 f fd ["walk", "ways"] (spWays K C) := by
  refine F.ok sc_ways_by_row (fun vs H Q E h => ?_) (fun cdv A' outer s H vs Q E hr h => ?_)
  · obtain ⟨S, A, n, t0, rs, kvs, u, rfl, _⟩ := h
    rfl
  · obtain ⟨S, A, n, t0, rs, kvs, u, rfl, W, R, hlr, G0, h30, D1, hu, k⟩ := h
    have nd := sc_ways_by_row.nd
    refine ⟨_, (pss_cons (ps_set (i := 2) nd rfl (Or.inr rfl) (pe_op op_rep (pe_lst (pa_cons (pe_tup (pa_cons pe_int (pa_cons pe_int pa_nil))) pa_nil)) (pe_callB call_len_seq (by rfl) T.n_len (by decide +kernel) (pa_cons (pe_fld (pv 0) rfl) pa_nil))))
  (pss_cons (ps_for PassesOwn.never rfl (pi_list (pe_has h_inner_first (hr.mono (by first | decide | omega)) (pa_cons (pv 0) pa_nil))) (pg_name (i := 3) nd rfl (Or.inl rfl)) (pss_one (ps_if (pt_truth (pe_ix ix_list (pe_fld (pv 0) rfl) (pv 3) (fun _ _ => rfl)) (by intro _; rfl)) (pss_cons (ps_setLc (i := 4) (own := [("part", 7)]) rfl nd rfl rfl (sw_true rfl rfl rfl (by decide +kernel)) (pi_list (pe_ix ix_list (pe_fld (pv 0) rfl) (pv 3) (fun _ _ => rfl))) (blkOk_by (own := [("part", 7)]) (N := N_ways_by_row) (sc := defScope s_ways_by_row) (by decide +kernel)) (fun _ _ _ _ _ => (pg_name (i := 7) nd rfl (Or.inl rfl))) (fun _ _ _ _ _ => pts_nil) (fun _ _ _ _ _ => (pe_ix (show IxR _ (rIxL K) from ix_list) (pv 2) (pv 7) (fun _ _ => rfl))))
  (pss_cons (ps_set (i := 5) nd rfl (Or.inl rfl) (pe_has h_product_of (hr.mono (by first | decide | omega)) (pa_cons (pe_lc (own := [("dark", 8), ("burning", 6)]) rfl nd (pi_list (pv 4)) (blkOk_by (own := [("dark", 8), ("burning", 6)]) (N := N_ways_by_row) (sc := defScope s_ways_by_row) (by decide +kernel)) (fun _ _ _ _ _ => (show PG _ _ (gTup K 2 (gCons (gName 8) (gCons (gName 6) gNil))) from pg_tup rfl (pgs_cons (pg_name (i := 8) nd rfl (Or.inl rfl) (Or.inr rfl)) (pgs_cons (pg_name (i := 6) nd rfl (Or.inl rfl) (Or.inr rfl)) pgs_nil)))) (fun _ _ _ _ _ => pts_nil) (fun _ _ _ _ _ => (pe_op op_add (pv 8) (pv 6)))) pa_nil)))
  (pss_cut (ps_if (pt_cmpR op_eq (pe_ix ix_list (pe_fld (pv 0) rfl) (pv 3) (fun _ _ => rfl)) pe_str (nomark _)) (pss_one (ps_set (i := 6) nd rfl (Or.inl rfl) (pe_has h_product_of (hr.mono (by first | decide | omega)) (pa_cons (pe_lc (own := [("way", 9)]) rfl nd (pi_list (pv 4)) (blkOk_by (own := [("way", 9)]) (N := N_ways_by_row) (sc := defScope s_ways_by_row) (by decide +kernel)) (fun _ _ _ _ _ => (pg_name (i := 9) nd rfl (Or.inl rfl))) (fun _ _ _ _ _ => pts_nil) (fun _ _ _ _ _ => (pe_ix (show IxR _ (rIxT K) from ix_tup) (pv 9) pe_int (fun _ _ => rfl)))) pa_nil)))) (pss_one (ps_set (i := 6) nd rfl (Or.inl rfl) (pe_op op_sub (pv 5) (pe_has h_product_of (hr.mono (by first | decide | omega)) (pa_cons (pe_lc (own := [("way", 9)]) rfl nd (pi_list (pv 4)) (blkOk_by (own := [("way", 9)]) (N := N_ways_by_row) (sc := defScope s_ways_by_row) (by decide +kernel)) (fun _ _ _ _ _ => (pg_name (i := 9) nd rfl (Or.inl rfl))) (fun _ _ _ _ _ => pts_nil) (fun _ _ _ _ _ => (pe_ix (show IxR _ (rIxT K) from ix_tup) (pv 9) pe_int (fun _ _ => rfl)))) pa_nil))))))
  (pss_one (ps_asg (pe_tup (pa_cons (pe_op op_sub (pv 5) (pv 6)) (pa_cons (pv 6) pa_nil))) (pg_sub (pv 2) (pv 3) set_list)))))) (pss_one (ps_asg (pe_ix ix_list (pv 1) (pe_ix ix_list (pe_fld (pv 0) rfl) (pv 3) (fun _ _ => rfl)) (fun _ _ => rfl)) (pg_sub (pv 2) (pv 3) set_list))))))
  (pss_one (ps_ret (pv 2))))), ?_⟩
    have sml := rows_all R (Pr := Sml) ⟨G0.form, h30⟩ fun w ps h => h.part
    have wlen : ∀ Hx, Ex H Hx → Ev (tCB (rLenS K) (tCons (tFld K (tVar 0) "words") tNil)) (start N_ways_by_row [.ref A.a, u]) Hx (.int (rs.length : Int)) := fun Hx e => by
      have := ev_len (K := K) (ev_words Z (wk_mono W e) (ev_var (σ := start N_ways_by_row [.ref A.a, u]) (i := 0) rfl)) (sq_of (wk_mono W e).hw)
      rwa [List.length_map] at this
    refine qd_asgL (K := K) (S := S) (edl_rep (n := rs.length) (d := pairD (0, 0)) (edl_lst (eda_cons (ed_tup D1 (eda_cons ed_int (eda_cons ed_int eda_nil)) (show 2 ≤ 100000 by decide)) eda_nil) (show 1 ≤ 100000 by decide)) wlen (by omega)) fun l us H2 hl e2 h2 f2 => ?_
    have W2 := wk_mono W e2
    let old : Row Dl.T → PyData := fun _ => pairD (0, 0)
    let new' : Row Dl.T → PyData := fun r => pairD (cnt r.sub)
    have D2 : Dom (l :: S) H2 := (D1.mono e2).cons h2
    refine q_forNLn (j := 3) (el_inner W2 (ev_var (i := 0) rfl) (by omega)) (fun p i σ' G => ∃ us x3 x4 x5 x6, σ' = [some (.ref A.a), some u, some (.ref l), x3, x4, x5, x6, none, none, none] ∧ Ex H G ∧ G p = some (.lst (revV rs.length)) ∧ p ≠ l ∧ G l = some (.lst us) ∧ DpAll K (cut (l :: S) G) us (cells rs old new' i) ∧ Dom (l :: S) G)
      (fun p H3 hp e3 h3 => ⟨us, none, none, none, none, rfl, e2.trans e3, h3, fun z => (by rw [z, h2] at hp; cases hp), e3 _ _ h2, ?_, D2.mono e3⟩)
      (fun p i σ' G _ ⟨_, _, _, _, _, _, _, h, _⟩ => sq_of h) ?_ ?_
    · rw [cells_0]
      have : rs.map old = List.replicate rs.length (pairD (0, 0)) := by
        refine List.ext_getElem? fun j => ?_
        rw [List.getElem?_map, List.getElem?_replicate]
        by_cases hj : j < rs.length
        · rw [if_pos hj, List.getElem?_eq_getElem hj]; rfl
        · rw [if_neg hj, List.getElem?_eq_none_iff.mpr (by omega)]; rfl
      rw [this]
      exact dpa_mono (cut_mono e3) _ f2
    · rintro p i x σ' G hx ⟨us, x3, x4, x5, x6, rfl, eG, hpG, hpl, hlG, hdG, DG⟩
      have hi : i < rs.length := by
        have := (List.getElem?_eq_some_iff.mp hx).1
        rwa [revV_length] at this
      rw [revV_get hi] at hx
      cases hx
      have WG := wk_mono W eG
      obtain ⟨q, r, hq, hr'⟩ := get_ps W.len (i := rs.length - 1 - i) (by omega)
      have hqG := WG.hq _ q r hq hr'
      have hul : us.length = rs.length := by rw [dpa_len hdG, cells_len]
      show tIfS _ _ _ _ [some (.ref A.a), some u, some (.ref l), some (.int ((rs.length - 1 - i : Nat) : Int)), x4, x5, x6, none, none, none] G
      refine s_if (et_truL (ev_part Z WG (ev_var (i := 0) rfl) (ev_var (i := 3) rfl) hq) (sq_of hqG)) (fun hb G1 e3 => ?_) (fun hb G1 e3 => ?_)
      · cases hs : r.sub with
        | lev z =>
          rw [(row_lev R hr' hs).2.2] at hb
          cases hb
        | knot w ps =>
          have WG1 := wk_mono WG e3
          have hlG1 := e3 _ _ hlG
          have hdG1 := dpa_mono (cut_mono e3) _ hdG
          have DG1 := DG.mono e3
          obtain ⟨k1, k2⟩ := row_kids R hr' hs
          obtain ⟨kw, _, k3, k4⟩ := row_knot R hr' hs
          have sm := sml _ r hr'
          rw [hs] at sm
          have hck := cnt_knot sm.form
          have hpt := sm.part
          have hbd : ∀ t ∈ ps, 1 ≤ (cnt t).1 ∧ 1 ≤ (cnt t).2 ∧ (cnt t).1 + (cnt t).2 ≤ 1073741824 := fun t ht => cnt_bound (hpt t ht).form (hpt t ht).few
          -- the ways of the parts
          have hlc : EvDL K (l :: S) (tLc (iList K (tOp (rIxL K) (tFld K (tVar 0) "parts") (tVar 3))) (gName 7) tYes (tOp (rIxL K) (tVar 2) (tVar 7)) [7])
                [some (.ref A.a), some u, some (.ref l), some (.int ((rs.length - 1 - i : Nat) : Int)), x4, x5, x6, none, none, none] G1 (ps.map fun t => pairD (cnt t)) := by
            have hq2 := e3 _ _ hqG
            have h1 := edl_lcL (K := K) (S := l :: S) (σ := [some (.ref A.a), some u, some (.ref l), some (.int ((rs.length - 1 - i : Nat) : Int)), x4, x5, x6, none, none, none]) (H := G1) (j := 7) (vs := [7]) (t := tYes) (te := tOp (rIxL K) (tVar 2) (tVar 7))
              (ds := nums (r.parts.map fun (c : Nat) => (c : Int))) (fun _ => true) (pairAt rs)
              DG1 (ev_part Z WG1 (ev_var (i := 0) rfl) (ev_var (i := 3) rfl) hq) (sq_of hq2) (by have := nums_dpa (K := K) (H := cut (l :: S) G1) (r.parts.map fun (c : Nat) => (c : Int)); rwa [List.map_map] at this)
              (by unfold nums; rw [List.length_map, List.length_map]; omega) (fun x => rfl) (fun d v S' H1 _ _ _ _ _ => et_none) (fun d u S' H1 e5 c5 D5 hm hd _ => by
                obtain ⟨c', hc', rfl⟩ := List.mem_map.mp hm
                obtain ⟨c, hc, rfl⟩ := List.mem_map.mp hc'
                obtain ⟨j, hj⟩ := List.mem_iff_getElem?.mp hc
                obtain ⟨b1, b2, rc, pc, a1, a2, a3, _⟩ := k2 j c hj
                have hat : atI (cells rs old new' i) ((c : Nat) : Int) = some (pairD (cnt rc.sub)) := atI_nat (by rw [cells_get a1, if_pos (by omega)])
                refine ed_is (ed_ixM (ev_var (i := 2) rfl) (e5 _ _ hlG1) (dpa_mono c5 _ hdG1) (ed_var (i := 7) rfl hd) hat) ?_
                show pairD (cnt rc.sub) = ((rs[((c : Nat) : Int).toNat]?).map fun (r : Row Dl.T) => pairD (cnt r.sub)).getD .none
                rw [Int.toNat_natCast, a1]
                rfl)
            have e : ((nums (r.parts.map fun (c : Nat) => (c : Int))).filter fun _ => true).map (pairAt rs) = ps.map fun t => pairD (cnt t) := by
              rw [List.filter_eq_self.mpr fun _ _ => rfl]
              unfold nums
              rw [List.map_map, List.map_map]
              refine List.ext_getElem? fun j => ?_
              rw [List.getElem?_map, List.getElem?_map]
              cases hj : r.parts[j]? with
              | none =>
                have := List.getElem?_eq_none_iff.mp hj
                rw [List.getElem?_eq_none_iff.mpr (by omega)]
                rfl
              | some c =>
                obtain ⟨_, _, rc, pc, a1, a2, a3, _⟩ := k2 j c hj
                rw [a2]
                show some (((rs[((c : Nat) : Int).toNat]?).map fun (r : Row Dl.T) => pairD (cnt r.sub)).getD .none) = some (pairD (cnt pc))
                rw [Int.toNat_natCast, a1, ← a3]
                rfl
            rw [e] at h1
            exact h1
          refine qd_asgL hlc fun a4 v4 G2 h4n e4 h4 f4 => ?_
          have f4' : ∀ {G' : Hp}, Ex G2 G' → ∀ (i : Nat) (x : V) (z : Dl.T), v4[i]? = some x → ps[i]? = some z → ∃ p, x = .ref p ∧ SqT K G' p [.int (cnt z).1, .int (cnt z).2] := fun eG' i x z hx hz => by
            obtain ⟨d, hd, hxd⟩ := dpa_got f4 hx
            rw [List.getElem?_map, hz] at hd
            cases hd
            obtain ⟨p, rfl, hp⟩ := dp_pair hxd
            exact ⟨p, rfl, ex_t ((cut_le _ _).trans eG') hp⟩
          have l4 : v4.length = ps.length := by have := dpa_len f4; simpa using this
          -- whole
          have smw : ∀ n ∈ ps.map (fun t => (cnt t).1 + (cnt t).2), Sm n := fun n hn => by
            obtain ⟨t, ht, rfl⟩ := List.mem_map.mp hn
            have := hbd t ht
            exact ⟨by omega, by omega⟩
          have smd : ∀ n ∈ ps.map (fun t => (cnt t).1), Sm n := fun n hn => by
            obtain ⟨t, ht, rfl⟩ := List.mem_map.mp hn
            have := hbd t ht
            exact ⟨by omega, by omega⟩
          have smb : ∀ n ∈ ps.map (fun t => (cnt t).2), Sm n := fun n hn => by
            obtain ⟨t, ht, rfl⟩ := List.mem_map.mp hn
            have := hbd t ht
            exact ⟨by omega, by omega⟩
          have hw := el_lcT2 (K := K) (σ := [some (.ref A.a), some u, some (.ref l), some (.int ((rs.length - 1 - i : Nat) : Int)), some (.ref a4), x5, x6, none, none, none]) (H := G2) (a := 8) (b := 6) (vs := [8, 6]) (te := tOp (rI0 fun i j => .int (i + j)) (tVar 8) (tVar 6)) (zs := ps)
            (fun t => .int (cnt t).1) (fun t => .int (cnt t).2) (fun t => .int ((cnt t).1 + (cnt t).2)) (ev_var (i := 4) rfl) (sq_of h4) l4 (f4' (Ex.refl G2)) (by omega) (fun x y => rfl) (fun z H1 e5 hz => ev_op (ev_var (i := 8) rfl) (ev_var (i := 6) rfl) rv_I0)
          have ew : ps.map (fun t => V.int ((cnt t).1 + (cnt t).2)) = (ps.map fun t => (cnt t).1 + (cnt t).2).map V.int := by rw [List.map_map]; rfl
          rw [ew] at hw
          refine q_asg (ev_prod (K := K) hw smw) fun G3 e5 => ?_
          have W3 := wk_mono WG1 (e4.trans e5)
          -- burning
          have hway : ∀ (sel : Int × Int → Int) (idx : Int), (∀ p : Int × Int, atI [V.int p.1, V.int p.2] idx = some (.int (sel p))) → ∀ (y5 y6 : Option V) (G' : Hp), Ex G2 G' → EvL (tLc (iList K (tVar 4)) (gName 9) tYes (tOp (rIxT K) (tVar 9) (tC (.int idx))) [9])
              [some (.ref A.a), some u, some (.ref l), some (.int ((rs.length - 1 - i : Nat) : Int)), some (.ref a4), y5, y6, none, none, none] G' ((ps.map fun t => sel (cnt t)).map V.int) := fun sel idx hidx y5 y6 G' eG' => by
            have := el_lcMap (K := K) (σ := [some (.ref A.a), some u, some (.ref l), some (.int ((rs.length - 1 - i : Nat) : Int)), some (.ref a4), y5, y6, none, none, none]) (H := G') (j := 9) (vs := [9]) (te := tOp (rIxT K) (tVar 9) (tC (.int idx))) (zs := ps) (fun t => V.int (sel (cnt t)))
              (ev_var (i := 4) rfl) (sq_of (eG' _ _ h4)) l4 (by omega) (fun x => rfl) (fun i x z H1 e6 hx hz => by
                obtain ⟨p, rfl, hp⟩ := f4' (eG'.trans e6) i x z hx hz
                exact ev_op (ev_var (i := 9) rfl) ev_c (rv_ixT hp (hidx _)))
            have ew : ps.map (fun t => V.int (sel (cnt t))) = (ps.map fun t => sel (cnt t)).map V.int := by rw [List.map_map]; rfl
            rwa [ew] at this
          refine q_cut (M := fun σ' H' => σ' = [some (.ref A.a), some u, some (.ref l), some (.int ((rs.length - 1 - i : Nat) : Int)), some (.ref a4), some (.int (prodI (ps.map fun t => (cnt t).1 + (cnt t).2))), some (.int (cnt (.knot w ps)).2), none, none, none] ∧ Ex G1 H') ?_ ?_
          · refine s_if (et_test (ev_op (ev_ixV (ev_words Z W3 (ev_var (i := 0) rfl)) (sq_of W3.hw) (ev_var (i := 3) rfl) (atI_map hr')) ev_c (rv_eq rfl))) (fun hb G4 e6 => ?_) (fun hb G4 e6 => ?_)
            · have hw : w = true := by
                cases w with
                | true => rfl
                | false =>
                  rw [kw] at hb
                  exact absurd (of_decide_eq_true hb) (fun z => absurd (V.str.inj z) (by decide +kernel))
              subst hw
              refine s_asg (ev_prod (K := K) (hway (·.2) 1 (fun p => rfl) _ _ G4 (e5.trans e6)) smb) fun G5 e7 => ⟨?_, e4.trans (e5.trans (e6.trans e7))⟩
              rw [hck]
              rfl
            · have hw : w = false := by
                cases w with
                | false => rfl
                | true =>
                  rw [kw] at hb
                  exact absurd rfl (of_decide_eq_false hb)
              subst hw
              refine s_asg (ev_op (ev_var (i := 5) rfl) (ev_prod (K := K) (hway (·.1) 0 (fun p => rfl) _ _ G4 (e5.trans e6)) smd) rv_I0) fun G5 e7 => ⟨?_, e4.trans (e5.trans (e6.trans e7))⟩
              rw [hck]
              rfl
          · rintro σ' H' ⟨rfl, eH⟩
            refine (eu_tup (σ := [some (.ref A.a), some u, some (.ref l), some (.int ((rs.length - 1 - i : Nat) : Int)), some (.ref a4), some (.int (prodI (ps.map fun t => (cnt t).1 + (cnt t).2))), some (.int (cnt (.knot w ps)).2), none, none, none]) (vs := [.int (prodI (ps.map fun t => (cnt t).1 + (cnt t).2) - (cnt (.knot w ps)).2), .int (cnt (.knot w ps)).2])
              (ea_cons (ev_op (ev_var (i := 5) rfl) (ev_var (i := 6) rfl) rv_I0) (ea_cons (ev_var (i := 6) rfl) ea_nil)) (show 2 ≤ 100000 by decide)) H' (Ex.refl H') _ fun q' H5 hq' e7 h7 => ?_
            have eG5 := eH.trans e7
            have hl5 := eG5 _ _ hlG1
            refine ⟨_, rfl, _, rfl, l, us, _, rs.length - 1 - i, rfl, rfl, hl5, ixN_nat (by omega), ?_⟩
            refine ⟨us.set (rs.length - 1 - i) (.ref q'), _, _, _, _, rfl, Ex.mut (eG.trans (e3.trans eG5)) hl, (upd_ne hpl).trans (eG5 _ _ (e3 _ _ hpG)), hpl, upd_same, ?_, (DG1.mono eG5).upd⟩
            rw [cut_upd List.mem_cons_self, ← cells_set hi hr']
            refine dpa_set _ (dpa_mono (cut_mono eG5) _ hdG1) ?_
            show Dp K (cut (l :: S) H5) (.ref q') (pairD (cnt r.sub))
            have e8 : prodI (ps.map fun t => (cnt t).1 + (cnt t).2) - (cnt (.knot w ps)).2 = (cnt (.knot w ps)).1 := by rw [hck]
            rw [e8] at h7
            rw [hs]
            exact .tup (st_of ((cut_out (DG1.new (fresh_back eH hq'))).trans h7)) (.cons (.int _) (.cons (.int _) .nil))
      · cases hs : r.sub with
        | knot w ps =>
          obtain ⟨k1, _⟩ := row_kids R hr' hs
          have k3 := (row_knot R hr' hs).2.2.1
          have : r.parts = [] := by
            cases hp : r.parts with
            | nil => rfl
            | cons a b => rw [hp] at hb; cases hb
          rw [this] at k1
          simp at k1
          omega
        | lev z =>
          have WG1 := wk_mono WG e3
          have hlG1 := e3 _ _ hlG
          have hdG1 := dpa_mono (cut_mono e3) _ hdG
          have DG1 := DG.mono e3
          have hz : z < t0.levs.length := by
            have h1 : z ∈ t0.levs := by
              rw [← rows_levs R]
              exact List.mem_filterMap.mpr ⟨r, List.mem_of_getElem? hr', by rw [hs]; rfl⟩
            exact List.mem_range.mp (G0.perm.mem_iff.mp h1)
          have hu1 : Dp K (cut (l :: S) G1) u (.list (List.replicate t0.levs.length (pairD (1, 1)))) := by
            refine dp_mono ?_ _ hu
            exact cut_new_le (eG.trans e3) hl
          have c0 : EvD K (l :: S) (tOp (rIxL K) (tVar 1) (tOp (rIxL K) (tFld K (tVar 0) "levers") (tVar 3))) [some (.ref A.a), some u, some (.ref l), some (.int ((rs.length - 1 - i : Nat) : Int)), x4, x5, x6, none, none, none] G1 (pairD (1, 1)) :=
            ed_ixL (ed_var (i := 1) rfl hu1) (ed_I (i := (z : Int)) (ev_is (ev_ixV (ev_levers Z WG1 (ev_var (i := 0) rfl)) (sq_of WG1.hl) (ev_var (i := 3) rfl) (atI_map hr')) (by rw [(row_lev R hr' hs).2.1]))) (atI_nat (by rw [List.getElem?_replicate, if_pos hz]))
          refine c0 G1 (Ex.refl G1) _ fun y H5 e7 hy => ?_
          refine ⟨_, rfl, _, rfl, l, us, _, rs.length - 1 - i, rfl, rfl, e7 _ _ hlG1, ixN_nat (by omega), ?_⟩
          refine ⟨us.set (rs.length - 1 - i) y, _, _, _, _, rfl, Ex.mut (eG.trans (e3.trans e7)) hl, (upd_ne hpl).trans (e7 _ _ (e3 _ _ hpG)), hpl, upd_same, ?_, (DG1.mono e7).upd⟩
          rw [cut_upd List.mem_cons_self, ← cells_set hi hr']
          refine dpa_set _ (dpa_mono (cut_mono e7) _ hdG1) ?_
          show Dp K (cut (l :: S) H5) y (pairD (cnt r.sub))
          rw [hs, cnt_lev]
          exact hy
    · rintro p σ' G ⟨us, x3, x4, x5, x6, rfl, eG, hpG, hpl, hlG, hdG, DG⟩
      rw [revV_length, cells_all] at hdG
      exact s_ret (ev_var (i := 2) rfl) fun G2 e3 => k l us G2 hl (eG.trans e3) (e3 _ _ hlG) (dpa_mono (cut_mono e3) _ hdG)
end
end Dl

set_option Elab.async false
set_option maxRecDepth 100000
set_option linter.all false
/-! how many settings of the others hang on a lever -/
namespace Dl
/-- how a part must be lest it decide -/
def kept (w : Bool) (t : T) : Int := if w then (cnt t).2 else (cnt t).1
mutual
def T.hc (z : Nat) : T → Int
  | .lev y => if y = z then 1 else 0
  | .knot w ps => T.hcs z w ps
/-- Σ over the parts: what hangs in it, times the others kept -/
def T.hcs (z : Nat) (w : Bool) : List T → Int
  | [] => 0
  | t :: r => t.hc z * prodI (r.map (kept w)) + kept w t * T.hcs z w r
end
theorem hcs_zero {z : Nat} {w : Bool} : ∀ {ps : List T}, (∀ t ∈ ps, t.hc z = 0) → T.hcs z w ps = 0
  | [], _ => by rw [T.hcs]
  | t :: r, h => by rw [T.hcs, h t List.mem_cons_self, hcs_zero fun x hx => h x (List.mem_cons_of_mem _ hx), Int.zero_mul, Int.mul_zero, Int.zero_add]
mutual
theorem hc_zero {z : Nat} : ∀ {t : T}, z ∉ t.levs → t.hc z = 0
  | .lev y, h => by
    rw [T.levs] at h
    rw [T.hc, if_neg fun e => h (by rw [e]; exact List.mem_singleton_self _)]
  | .knot w ps, h => by
    rw [T.levs] at h
    rw [T.hc]
    exact hcs_zero (hcs_part h)
theorem hcs_part {z : Nat} : ∀ {ps : List T}, z ∉ T.levss ps → ∀ t ∈ ps, t.hc z = 0
  | [], _, _, m => nomatch m
  | a :: r, h, t, m => by
    rw [T.levss, List.mem_append, not_or] at h
    rcases List.mem_cons.mp m with e | m
    · rw [e]; exact hc_zero h.1
    · exact hcs_part h.2 t m
end
/-- one part has the lever -/
theorem hcs_one {z : Nat} {w : Bool} {c : Nat} : ∀ {cs : List Nat} {ps : List T}, cs.length = ps.length → cs.Nodup → ∀ {j : Nat} {p : T}, cs[j]? = some c → ps[j]? = some p → (T.levss ps).Nodup → z ∈ p.levs →
    T.hcs z w ps = p.hc z * prodI (((cs.zip ps).filter fun x => decide (x.1 ≠ c)).map fun x => kept w x.2)
  | [], [], _, _, j, p, h, _, _, _ => by simp at h
  | [], _ :: _, h, _, _, _, _, _, _, _ => by simp at h
  | _ :: _, [], h, _, _, _, _, _, _, _ => by simp at h
  | a :: cs, t :: ps, hl, nd, 0, p, hc, hp, nl, hz => by
    simp at hc hp
    subst hc hp
    rw [T.levss, List.nodup_append] at nl
    have h0 : T.hcs z w ps = 0 := hcs_zero (hcs_part fun m => nl.2.2 z hz z m rfl)
    have nd' := List.nodup_cons.mp nd
    have hf : ∀ (cs : List Nat) (ps : List T), a ∉ cs → (cs.zip ps).filter (fun x => decide (x.1 ≠ a)) = cs.zip ps := fun cs ps h => List.filter_eq_self.mpr fun x hx => decide_eq_true fun e => h (e ▸ (List.of_mem_zip hx).1)
    rw [T.hcs, h0, Int.mul_zero, Int.add_zero, List.zip_cons_cons, List.filter_cons, if_neg (by simp), hf cs ps nd'.1]
    congr 2
    have hz2 : ∀ (cs : List Nat) (ps : List T), cs.length = ps.length → (cs.zip ps).map (fun x => kept w x.2) = ps.map (kept w) := fun cs ps h => by
      have : (cs.zip ps).map (fun x => kept w x.2) = ((cs.zip ps).map Prod.snd).map (kept w) := by rw [List.map_map]; rfl
      rw [this, List.map_snd_zip (by omega)]
    rw [hz2 cs ps (by simpa using hl)]
  | a :: cs, t :: ps, hl, nd, j + 1, p, hc, hp, nl, hz => by
    have hc' : cs[j]? = some c := by simpa using hc
    have hp' : ps[j]? = some p := by simpa using hp
    have nd' := List.nodup_cons.mp nd
    rw [T.levss, List.nodup_append] at nl
    have ih := hcs_one (w := w) (by simpa using hl) nd'.2 hc' hp' nl.2.1 hz
    have hm : z ∈ T.levss ps := by rw [levss_flat]; exact List.mem_flatMap.mpr ⟨p, List.mem_of_getElem? hp', hz⟩
    have ht : t.hc z = 0 := hc_zero fun m => nl.2.2 z m z hm rfl
    have ne : a ≠ c := fun e => nd'.1 (e ▸ List.mem_of_getElem? hc')
    rw [T.hcs, ht, Int.zero_mul, Int.zero_add, ih, List.zip_cons_cons, List.filter_cons, if_pos (by simp [ne]), List.map_cons, prodI_cons]
    rw [← Int.mul_assoc, ← Int.mul_assoc, Int.mul_comm (kept w t)]
theorem prodI_filter {α : Type} {f g : α → Int} {q : α → Bool} : ∀ {l : List α}, (∀ x ∈ l, 1 ≤ f x ∧ f x ≤ g x) → 1 ≤ prodI ((l.filter q).map f) ∧ prodI ((l.filter q).map f) ≤ prodI (l.map g)
  | [], _ => ⟨Int.le_refl _, Int.le_refl _⟩
  | a :: r, h => by
    obtain ⟨h1, h2⟩ := prodI_filter (q := q) fun x hx => h x (List.mem_cons_of_mem _ hx)
    have ha := h a List.mem_cons_self
    rw [List.map_cons, prodI_cons, List.filter_cons]
    have b1 := Int.mul_le_mul_of_nonneg_right (show 1 ≤ g a by omega) (show 0 ≤ prodI (r.map g) by omega)
    rw [Int.one_mul] at b1
    split
    · rw [List.map_cons, prodI_cons]
      refine ⟨mul_pos1 ha.1 h1, ?_⟩
      have c1 := Int.mul_le_mul_of_nonneg_left h2 (show 0 ≤ f a by omega)
      have c2 := Int.mul_le_mul_of_nonneg_right ha.2 (show 0 ≤ prodI (r.map g) by omega)
      omega
    · exact ⟨h1, by omega⟩
end Dl

set_option Elab.async false
set_option maxRecDepth 100000
set_option maxHeartbeats 4000000
set_option linter.all false
/-! hung_count of a lever that is there -/
namespace Dl
open PySem L2 Evl Dt
section
variable {X : Cx} {x : Str} {pos : Pos}
/-- a constant of the module that is an object -/
theorem pe_gc {p : Addr} (h : X.mg x = some (.ref p)) (hg : Gl X x := by rfl) (hd : (x == ("__debug__" : Str)) = false := by decide) : PE X (.Name x pos) (tC (.ref p)) := pe_glob hg h rfl hd
end
structure Nf (K : PySem.W.Frag) (mg : Str → Option Value) (pF : Addr) : Prop extends Nw mg where
  g_FREE : mg "FREE" = some (.ref pF)
  free : ∀ H : Hp, SqT K H pF [.int 1, .int 1]
section
variable {P : Program} {w : World} {K : PySem.W.Frag} {mg : Str → Option Value} {base : Heap} {f C pF : Addr} {fd : FuncData} {τ : Type}
abbrev spBelow (K : PySem.W.Frag) : Sp := spD K (fun ds d => ∃ x n, ds = [x, .int n] ∧ d = .bool (isNumD x && (match x with | .int i => decide (i < n) | _ => false)))
abbrev s_is_below : Stmt := topS 7
abbrev N_is_below : List Str := ["value", "limit"]
theorem sc_is_below : FnScope N_is_below ["value", "limit"] (defScope s_is_below) := ⟨rfl, rfl, rfl, by decide +kernel, rfl, by decide +kernel, by decide +kernel⟩

theorem ok_is_below (F : Fun K "is_below" "is_below" s_is_below f fd) (h_is_number : Has P w K mg base 2 "is_number" ["value"] (spIsNumber K)) : FnOk P w K mg base CX0 3 f fd ["value", "limit"] (spBelow K) := by
  refine F.ok sc_is_below (fun vs H Q E h => ?_) (fun cdv A outer s H vs Q E hr h => ?_)
  · obtain ⟨S, ds, d, _, hv, ⟨x, n, rfl, rfl⟩, _⟩ := h
    exact dpa_len hv
  · obtain ⟨S, ds, d, D, hv, ⟨x, n, rfl, rfl⟩, k⟩ := h
    obtain ⟨v, u, rfl, hx, hn⟩ := dpa2 hv
    have nd := sc_is_below.nd
    have v0 : EvD K S (tVar 0) (start N_is_below [v, u]) H x := ed_var (i := 0) rfl hx
    have v1 : EvD K S (tVar 1) (start N_is_below [v, u]) H (.int n) := ed_var (i := 1) rfl hn
    refine ⟨_, (pss_one (ps_ret (pe_and (pe_has h_is_number (hr.mono (by first | decide | omega)) (pa_cons (pv 0) pa_nil)) (pe_one (pe_cmpR op_lt (pv 0) (pv 1) (nomark _)))))), ?_⟩
    refine s_ret (ev_andV (ev_ask D v0) fun hb => ?_) fun H1 e1 => k _ H1 e1 (.bl _)
    cases x with
    | int i => exact ev_op v0.int v1.int rv_I0
    | _ => cases hb
def spCheck (K : PySem.W.Frag) : Sp := fun vs H Q _ => ∃ (z n : Int), vs = [.int z, .int n] ∧ 0 ≤ z ∧ z < n ∧ RetV .non H Q
abbrev s_check_lever : Stmt := topS 11
abbrev N_check_lever : List Str := ["lever", "many"]
theorem sc_check_lever : FnScope N_check_lever ["lever", "many"] (defScope s_check_lever) := ⟨rfl, rfl, rfl, by decide +kernel, rfl, by decide +kernel, by decide +kernel⟩

theorem ok_check_lever (F : Fun K "check_lever" "check_lever" s_check_lever f fd) (h_is_below : Has P w K mg base 3 "is_below" ["value", "limit"] (spBelow K)) : FnOk P w K mg base CX0 4 f fd ["lever", "many"] (spCheck K) := by
  refine F.ok sc_check_lever (fun vs H Q E h => ?_) (fun cdv A outer s H vs Q E hr h => ?_)
  · obtain ⟨z, n, rfl, _⟩ := h
    rfl
  · obtain ⟨z, n, rfl, h0, h1, k⟩ := h
    have nd := sc_check_lever.nd
    refine ⟨_, (pss_one (ps_if (pt_not (pt_val (pe_has h_is_below (hr.mono (by first | decide | omega)) (pa_cons (pv 0) (pa_cons (pv 1) pa_nil))))) (pss_one ps_never) pss_nil)), ?_⟩
    have v0 : EvD K [] (tVar 0) (start N_check_lever [.int z, .int n]) H (.int z) := ed_var (i := 0) rfl (.int z)
    have v1 : EvD K [] (tVar 1) (start N_check_lever [.int z, .int n]) H (.int n) := ed_var (i := 1) rfl (.int n)
    have hb : Ev (tCall (spBelow K) [] E0 (tCons (tVar 0) (tCons (tVar 1) tNil))) (start N_check_lever [.int z, .int n]) H (.bl (isNumD (.int z) && decide (z < n))) :=
      EvD.bl (K := K) (S := []) (ed_call (R := fun ds d => ∃ x n, ds = [x, .int n] ∧ d = .bool (isNumD x && (match x with | .int i => decide (i < n) | _ => false))) Dom.nil (eda_cons v0 (eda_cons v1 eda_nil)) ⟨.int z, n, rfl, rfl⟩)
    have ht : (isNumD (.int z) && decide (z < n)) = true := by
      show (decide (0 ≤ z) && decide (z < n)) = true
      rw [decide_eq_true h0, decide_eq_true h1]
      rfl
    rw [ht] at hb
    exact s_when (b := false) (et_not (et_B hb)) (fun z => nomatch z) fun _ H1 e1 => k.go e1
theorem levss_nodup : ∀ {ps : List T}, (T.levss ps).Nodup → ∀ t ∈ ps, t.levs.Nodup
  | [], _, _, m => nomatch m
  | a :: r, h, t, m => by
    rw [T.levss, List.nodup_append] at h
    rcases List.mem_cons.mp m with e | m
    · rw [e]; exact h.1
    · exact levss_nodup h.2.1 t m
theorem ev_dget {σ : L2.St} {H : Hp} {ta tb : TE} {a : Addr} {kvs : List (Key × V)} {k : Key} {v : V} (ha : Ev ta σ H (.ref a)) (hb : Ev tb σ H (kV k)) (hd : H a = some (.dK kvs)) (hv : valV kvs k = some v) : Ev (tDGet ta tb) σ H v := fun H1 e Q q =>
  ha H1 e _ fun H2 e2 => hb H2 (e.trans e2) _ fun H3 e3 => ⟨a, v, rfl, .inl ⟨kvs, k, .inl ((e.trans (e2.trans e3)) a _ hd), rfl, hv.symm⟩, q H3 (e2.trans e3)⟩
theorem kept_pos {w : Bool} {t : T} (h : Sml t) : 1 ≤ kept w t ∧ kept w t ≤ (cnt t).1 + (cnt t).2 := by
  have b := cnt_bound h.form h.few
  unfold kept
  cases w
  · exact ⟨b.1, by show (cnt t).1 ≤ _; omega⟩
  · exact ⟨b.2.1, by show (cnt t).2 ≤ _; omega⟩
def keptAt (rs : List (Row T)) (w : Bool) : PyData → PyData
  | .int c => ((rs[c.toNat]?).map fun (r : Row T) => PyData.int (kept w r.sub)).getD .none
  | _ => .none
def neD (i : Int) : PyData → Bool
  | .int c => !decide (V.int c = V.int i)
  | _ => false
/-- hung_count: the lever may be any value; told is what comes of a lever that is there -/
def spCount (K : PySem.W.Frag) : Sp := fun vs H Q _ => ∃ (S : List Addr) (v : V) (t0 : T) (z : Nat), vs = [v, .int (z : Int)] ∧ Dom S H ∧ Dp K (cut S H) v t0.d ∧ Good t0 ∧ t0.levs.length ≤ 30 ∧ z < t0.levs.length ∧ RetV (.int (t0.hc z)) H Q
abbrev s_hung_count : Stmt := topS 31
abbrev N_hung_count : List Str := ["tree", "lever", "walk", "ways", "count", "row", "above", "kept", "part"]
theorem sc_hung_count : FnScope N_hung_count ["tree", "lever"] (defScope s_hung_count) := ⟨rfl, rfl, rfl, by decide +kernel, rfl, by decide +kernel, by decide +kernel⟩

theorem ok_hung_count (F : Fun K "hung_count" "hung_count" s_hung_count f fd) (Z : WT K C) (T : Nf K mg pF) (h_tree_walk : Has P w K mg base 5 "tree_walk" ["value"] (spTree K C)) (h_check_lever : Has P w K mg base 4 "check_lever" ["lever", "many"] (spCheck K))
    (h_ways_by_row : Has P w K mg base 2 "ways_by_row" ["walk", "ways"] (spWays K C)) (h_product_of : Has P w K mg base 1 "product_of" ["numbers"] (spProd K)) :
    FnOk P w K mg base CX0 6 f fd ["tree", "lever"] (spCount K) := by
  refine F.ok sc_hung_count (fun vs H Q E h => ?_) (fun cdv A' outer s H vs Q E hr h => ?_)
  · obtain ⟨S, v, t0, z, rfl, _⟩ := h
    rfl
  · obtain ⟨S, v, t0, z, rfl, D, hv, G0, h30, hz, k⟩ := h
    have nd := sc_hung_count.nd
    have hu := hu_of hr
    refine ⟨_, (pss_cons (ps_set (i := 2) nd rfl (Or.inl rfl) (pe_has h_tree_walk (hr.mono (by first | decide | omega)) (pa_cons (pv 0) pa_nil)))
  (pss_cut (ps_expr (pe_has h_check_lever (hr.mono (by first | decide | omega)) (pa_cons (pv 1) (pa_cons (pe_fld (pv 2) rfl) pa_nil))))
  (pss_cons (ps_set (i := 3) nd rfl (Or.inr rfl) (pe_has h_ways_by_row (hr.mono (by first | decide | omega)) (pa_cons (pv 2) (pa_cons (pe_op op_rep (pe_lst (pa_cons (pe_gc T.g_FREE) pa_nil)) (pe_fld (pv 2) rfl)) pa_nil))))
  (pss_cons (ps_set (i := 4) nd rfl (Or.inl rfl) pe_int)
  (pss_cons (ps_set (i := 5) nd rfl (Or.inr rfl) (pe_dget hu (pe_fld (pv 2) rfl) (pv 1) (fun _ _ => rfl)))
  (pss_cons (ps_while PassesOwn.never (pt_cmpR op_ge (pe_ix ix_list (pe_fld (pv 2) rfl) (pv 5) (fun _ _ => rfl)) pe_int (nomark _)) (pss_cons (ps_set (i := 6) nd rfl (Or.inl rfl) (pe_ix ix_list (pe_fld (pv 2) rfl) (pv 5) (fun _ _ => rfl)))
  (pss_cons (ps_set (i := 7) nd rfl (Or.inr rfl) (pe_ifExp (pt_cmpR op_eq (pe_ix ix_list (pe_fld (pv 2) rfl) (pv 6) (fun _ _ => rfl)) pe_str (nomark _)) pe_int pe_int))
  (pss_cons (ps_set (i := 4) nd rfl (Or.inl rfl) (pe_op op_mul (pv 4) (pe_has h_product_of (hr.mono (by first | decide | omega)) (pa_cons (pe_lc (own := [("part", 8)]) rfl nd (pi_list (pe_ix ix_list (pe_fld (pv 2) rfl) (pv 6) (fun _ _ => rfl))) (blkOk_by (own := [("part", 8)]) (N := N_hung_count) (sc := defScope s_hung_count) (by decide +kernel)) (fun _ _ _ _ _ => (pg_name (i := 8) nd rfl (Or.inl rfl))) (fun _ _ _ _ _ => (pts_one (pt_cmpR op_ne (pv 8) (pv 5) (nomark _)))) (fun _ _ _ _ _ => (pe_ix (show IxR _ (rIxT K) from ix_tup) (pe_ix (show IxR _ (rIxL K) from ix_list) (pv 3) (pv 8) (fun _ _ => rfl)) (pv 7) (fun _ _ => rfl)))) pa_nil))))
  (pss_one (ps_set (i := 5) nd rfl (Or.inr rfl) (pv 6)))))))
  (pss_one (ps_ret (pv 4))))))))), ?_⟩
    refine ⟨_, rfl, S, v, t0, rfl, D, hv, G0, fun H1 A n rs kvs W R e1 new => ?_⟩
    have hrs := rdg_small R G0.few G0.size
    have hn := rows_many R
    have sml := rows_all R (Pr := Sml) ⟨G0.form, h30⟩ fun w ps h => h.part
    have D1 := D.mono e1
    show tCut _ _ _ [some v, some (.int (z : Int)), some (.ref A.a), none, none, none, none, none, none] H1
    refine q_cut (M := fun σ' H' => σ' = [some v, some (.int (z : Int)), some (.ref A.a), none, none, none, none, none, none] ∧ Ex H1 H') ?_ ?_
    · refine (ev_many Z W (ev_var (i := 2) rfl) : Ev (tFld K (tVar 2) "many") [some v, some (.int (z : Int)), some (.ref A.a), none, none, none, none, none, none] H1 (.int n)) |> fun hm => ?_
      refine ⟨_, rfl, hm H1 (Ex.refl H1) _ fun H2 e2 => ⟨z, n, rfl, by omega, by omega, fun H3 e3 => ⟨rfl, e2.trans e3⟩⟩⟩
    · rintro σ' H2 ⟨rfl, e2⟩
      have W2 := wk_mono W e2
      have D2 := D1.mono e2
      have hrep : EvD K S (tOp rRep (tLst (tCons (tC (.ref pF)) tNil)) (tFld K (tVar 2) "many")) [some v, some (.int (z : Int)), some (.ref A.a), none, none, none, none, none, none] H2 (.list (List.replicate t0.levs.length (pairD (1, 1)))) :=
        (edl_rep (edl_lst (eda_cons (ed_c fun h => .tup (T.free h) (.cons (.int 1) (.cons (.int 1) .nil))) eda_nil) (show 1 ≤ 100000 by decide)) (fun H3 e3 => by
          have := ev_many Z (wk_mono W2 e3) (ev_var (σ := [some v, some (.int (z : Int)), some (.ref A.a), none, none, none, none, none, none]) (i := 2) rfl)
          rwa [hn] at this) (by omega)).ed D2
      refine ⟨_, rfl, hrep H2 (Ex.refl H2) _ fun u H3 e3 hu3 => ⟨S, A, n, t0, rs, kvs, u, rfl, wk_mono W2 e3, R, by omega, G0, h30, D2.mono e3, hu3, fun wl ws H4 hwl e4 h4 f4 => ?_⟩⟩
      have W4 := wk_mono W2 (e3.trans e4)
      have eH4 := e1.trans (e2.trans (e3.trans e4))
      have nodup := rows_all R (Pr := fun t => t.levs.Nodup) G0.nd fun w ps h t ht => by
        have h : (Dl.T.knot w ps).levs.Nodup := h
        rw [Dl.T.levs] at h
        exact levss_nodup h t ht
      have hzm : z ∈ t0.levs := G0.perm.mem_iff.mpr (List.mem_range.mpr hz)
      rw [← rows_levs R] at hzm
      obtain ⟨r0, hr0m, hr0l⟩ := List.mem_filterMap.mp hzm
      obtain ⟨i0, hi0⟩ := List.mem_iff_getElem?.mp hr0m
      have hs0 : r0.sub = .lev z := by
        cases hs : r0.sub with
        | lev y => rw [hs] at hr0l; cases hr0l; rfl
        | knot w ps => rw [hs] at hr0l; cases hr0l
      show tSeq _ _ _ [some v, some (.int (z : Int)), some (.ref A.a), some (.ref wl), none, none, none, none, none] H4
      refine q_asg ev_c fun H5 e5 => ?_
      have W5 := wk_mono W4 e5
      refine q_asg (ev_dget (k := .inl (z : Int)) (ev_rows Z W5 (ev_var (i := 2) rfl)) (ev_var (i := 1) rfl) W5.hd (R.dict i0 r0 z hi0 hs0)) fun H6 e6 => ?_
      have e46 := e5.trans e6
      refine q_while (fun m σ' G => ∃ r x6 x7, rs[m]? = some r ∧ z ∈ r.sub.levs ∧ σ' = [some v, some (.int (z : Int)), some (.ref A.a), some (.ref wl), some (.int (r.sub.hc z)), some (.int (m : Int)), x6, x7, none] ∧ Ex H4 G) i0
        ⟨r0, none, none, hi0, by rw [hs0, Dl.T.levs]; exact List.mem_singleton_self z, by rw [hs0, Dl.T.hc, if_pos rfl]; rfl, e46⟩ (fun m σ' G hW => ?_)
      obtain ⟨r, x6, x7, hr', hzr, rfl, eG⟩ := hW
      have WG := wk_mono W4 eG
      refine ⟨_, et_test (ev_op (ev_ixV (ev_above Z WG (ev_var (i := 2) rfl)) (sq_of WG.hb) (ev_var (i := 5) rfl) (atI_map hr')) ev_c rv_I0), fun hb G1 eG1 => ?_, fun hb G1 eG1 => ?_⟩
      · have hab : 0 ≤ r.above := of_decide_eq_true hb
        rcases R.up m r hr' with ⟨_, h1⟩ | ⟨p, rp, hpa, hpm, hrp, hmem⟩
        · omega
        · cases hsp : rp.sub with
          | lev y =>
            rw [(row_lev R hrp hsp).2.2] at hmem
            exact nomatch hmem
          | knot w ps =>
            obtain ⟨k1, k2⟩ := row_kids R hrp hsp
            obtain ⟨kw, _, k3, k4⟩ := row_knot R hrp hsp
            obtain ⟨j, hj⟩ := List.mem_iff_getElem?.mp hmem
            obtain ⟨_, _, rc, pj, a1, a2, a3, _⟩ := k2 j m hj
            rw [hr'] at a1
            cases a1
            have WG1 := wk_mono WG eG1
            have sm := sml p rp hrp
            rw [hsp] at sm
            have smp := sm.part
            have hnd := nodup p rp hrp
            rw [hsp, Dl.T.levs] at hnd
            have hform := sm.form
            rw [Dl.T.form, Bool.and_eq_true] at hform
            have hpb := hbs w ps hform.2
            have hfew := sm.few
            rw [Dl.T.levs] at hfew
            obtain ⟨q, _, hq, hrq⟩ := get_ps W.len (i := p) (by have := (List.getElem?_eq_some_iff.mp hrp).1; omega)
            rw [hrp] at hrq
            cases hrq
            have hcn : rp.parts.Nodup := (R.kids p rp w ps hrp hsp).2.2.2.imp fun h => Nat.ne_of_lt h
            refine ⟨fun σ2 H2 => ∃ m', m' < m ∧ ∃ r x6 x7, rs[m']? = some r ∧ z ∈ r.sub.levs ∧ σ2 = [some v, some (.int (z : Int)), some (.ref A.a), some (.ref wl), some (.int (r.sub.hc z)), some (.int (m' : Int)), x6, x7, none] ∧ Ex H4 H2, fun _ _ h => h, ?_⟩
            -- above
            refine q_asg (v := .int (p : Int)) (by rw [← hpa]; exact ev_ixV (ev_above Z WG1 (ev_var (i := 2) rfl)) (sq_of WG1.hb) (ev_var (i := 5) rfl) (atI_map hr')) fun G2 eG2 => ?_
            have WG2 := wk_mono WG1 eG2
            -- kept
            refine q_asg (v := .int (if w then 1 else 0)) (ev_if (b := w) (et_is (et_test (ev_op (ev_ixV (ev_words Z WG2 (ev_var (i := 2) rfl)) (sq_of WG2.hw) (ev_var (i := 6) rfl) (atI_map hrp)) ev_c (rv_eq rfl))) ?_) (fun hw => by rw [hw]; exact ev_c) (fun hw => by rw [hw]; exact ev_c)) fun G3 eG3 => ?_
            · rw [kw]
              cases w
              · exact decide_eq_false fun z => absurd (V.str.inj z) (by decide +kernel)
              · exact decide_eq_true rfl
            have WG3 := wk_mono WG2 eG3
            have eH43 := eG.trans (eG1.trans (eG2.trans eG3))
            have h4G := eH43 _ _ h4
            have f4G := dpa_mono (cut_mono eH43) _ f4
            have D4 : Dom (wl :: S) G3 := (((D2.mono e3).mono e4).cons h4).mono eH43
            have hqG := WG3.hq p q rp hq hrp
            -- the others kept
            have hlc := edl_lcL (K := K) (S := wl :: S) (σ := [some v, some (.int (z : Int)), some (.ref A.a), some (.ref wl), some (.int (r.sub.hc z)), some (.int (m : Int)), some (.int (p : Int)), some (.int (if w then 1 else 0)), none]) (H := G3) (j := 8) (vs := [8]) (t := tTest (tOp rNe (tVar 8) (tVar 5))) (te := tOp (rIxT K) (tOp (rIxL K) (tVar 3) (tVar 8)) (tVar 7))
              (ds := nums (rp.parts.map fun (c : Nat) => (c : Int))) (neD (m : Int)) (keptAt rs w)
              D4 (ev_part Z WG3 (ev_var (i := 2) rfl) (ev_var (i := 6) rfl) hq) (sq_of hqG) (by have := nums_dpa (K := K) (H := cut (wl :: S) G3) (rp.parts.map fun (c : Nat) => (c : Int)); rwa [List.map_map] at this)
              (by unfold nums; rw [List.length_map, List.length_map]; omega) (fun x => rfl) (fun d y S' H1 _ _ _ hm hd => by
                obtain ⟨c', hc', rfl⟩ := List.mem_map.mp hm
                rw [dp_int hd]
                exact et_test (ev_op (ev_var (i := 8) rfl) (ev_var (i := 5) rfl) (rv_ne rfl)))
              (fun d y S' H1 e7 c7 D7 hm hd _ => by
                obtain ⟨c', hc', rfl⟩ := List.mem_map.mp hm
                obtain ⟨c, hc, rfl⟩ := List.mem_map.mp hc'
                obtain ⟨j', hj'⟩ := List.mem_iff_getElem?.mp hc
                obtain ⟨b1, b2, rc, pc, a1, a2', a3', _⟩ := k2 j' c hj'
                have hat : atI (rs.map fun r => pairD (cnt r.sub)) ((c : Nat) : Int) = some (pairD (cnt rc.sub)) := atI_nat (by rw [List.getElem?_map, a1]; rfl)
                refine ed_is (ed_ixT (ds := [.int (cnt rc.sub).1, .int (cnt rc.sub).2]) (d := .int (kept w rc.sub)) (ed_ixM (ev_var (i := 3) rfl) (e7 _ _ h4G) (dpa_mono c7 _ f4G) (ed_var (i := 8) rfl hd) hat) (ed_I (ev_var (i := 7) rfl)) (by cases w <;> rfl)) ?_
                show PyData.int (kept w rc.sub) = ((rs[((c : Nat) : Int).toNat]?).map fun (r : Row Dl.T) => PyData.int (kept w r.sub)).getD .none
                rw [Int.toNat_natCast, a1]
                rfl)
            have e : ((nums (rp.parts.map fun (c : Nat) => (c : Int))).filter (neD (m : Int))).map (keptAt rs w) = nums (((rp.parts.zip ps).filter fun x => decide (x.1 ≠ m)).map fun x => kept w x.2) := by
              have e1 : rp.parts = (rp.parts.zip ps).map Prod.fst := (List.map_fst_zip (by omega)).symm
              unfold nums
              rw [List.map_map, List.map_map]
              conv => lhs; rw [e1]
              rw [List.map_map, List.filter_map, List.map_map]
              have e2 : (rp.parts.zip ps).filter (neD (m : Int) ∘ ((PyData.int ∘ fun (c : Nat) => (c : Int)) ∘ Prod.fst)) = (rp.parts.zip ps).filter fun x => decide (x.1 ≠ m) := by
                refine List.filter_congr fun x _ => ?_
                show (!decide (V.int ((x.1 : Nat) : Int) = V.int (m : Int))) = decide (x.1 ≠ m)
                by_cases hx : x.1 = m
                · rw [hx, decide_eq_true rfl, decide_eq_false (fun h => h rfl)]
                  rfl
                · rw [decide_eq_true hx, decide_eq_false fun z => hx (by have := V.int.inj z; omega)]
                  rfl
              rw [e2]
              refine List.map_congr_left fun x hx => ?_
              obtain ⟨j', hj'⟩ := List.mem_iff_getElem?.mp (List.mem_filter.mp hx).1
              obtain ⟨hx1, hx2⟩ := List.getElem?_zip_eq_some.mp hj'
              obtain ⟨b1, b2, rc, pc, a1, a2', a3', _⟩ := k2 j' x.1 hx1
              rw [hx2] at a2'
              cases a2'
              show ((rs[((x.1 : Nat) : Int).toNat]?).map fun (r : Row Dl.T) => PyData.int (kept w r.sub)).getD .none = PyData.int (kept w x.2)
              rw [Int.toNat_natCast, a1, ← a3']
              rfl
            rw [e] at hlc
            have hkp : ∀ x ∈ rp.parts.zip ps, 1 ≤ kept w x.2 ∧ kept w x.2 ≤ (cnt x.2).1 + (cnt x.2).2 := fun x hx => kept_pos (smp x.2 (List.of_mem_zip hx).2)
            have hpf := prodI_filter (f := fun x : Nat × Dl.T => kept w x.2) (g := fun x : Nat × Dl.T => (cnt x.2).1 + (cnt x.2).2) (q := fun x => decide (x.1 ≠ m)) hkp
            have hall : prodI ((rp.parts.zip ps).map fun x => (cnt x.2).1 + (cnt x.2).2) = 2 ^ (Dl.T.levss ps).length := by
              have e1 : (rp.parts.zip ps).map (fun x => (cnt x.2).1 + (cnt x.2).2) = ((rp.parts.zip ps).map Prod.snd).map fun t => (cnt t).1 + (cnt t).2 := by rw [List.map_map]; rfl
              rw [e1, List.map_snd_zip (by omega), ← prodI_pow]
              congr 1
              exact List.map_congr_left fun t ht => (hpb t ht).sum
            have p2 : (2 : Int) ^ (Dl.T.levss ps).length ≤ 2 ^ 30 := by
              have := Nat.pow_le_pow_right (n := 2) (by decide) hfew
              exact_mod_cast this
            have hsm : ∀ n ∈ ((rp.parts.zip ps).filter fun x => decide (x.1 ≠ m)).map fun x => kept w x.2, Sm n := fun n hn => by
              obtain ⟨x, hx, rfl⟩ := List.mem_map.mp hn
              have h1 := hkp x (List.mem_filter.mp hx).1
              have h2 := smp x.2 (List.of_mem_zip (List.mem_filter.mp hx).1).2
              have h3 := cnt_bound h2.form h2.few
              exact ⟨by omega, by omega⟩
            refine q_asg (ev_op (ev_var (i := 4) rfl) (ev_prod (K := K) (EvDL.ints hlc) hsm) (rv_I (.inr ⟨by omega, by omega⟩))) fun G4 eG4 => ?_
            refine s_asg (ev_var (i := 6) rfl) fun G5 eG5 => ⟨p, hpm, rp, some (.int (p : Int)), some (.int (if w then 1 else 0)), hrp, ?_, ?_, eH43.trans (eG4.trans eG5)⟩
            · rw [hsp, Dl.T.levs, levss_flat]
              exact List.mem_flatMap.mpr ⟨pj, List.mem_of_getElem? a2, by rw [← a3]; exact hzr⟩
            · have h1 : (Dl.T.knot w ps).hc z = pj.hc z * prodI (((rp.parts.zip ps).filter fun x => decide (x.1 ≠ m)).map fun x => kept w x.2) := by rw [Dl.T.hc, hcs_one (by omega) hcn hj a2 hnd (by rw [← a3]; exact hzr)]
              rw [hsp, h1, ← a3]
              rfl
      · have hab : ¬ 0 ≤ r.above := of_decide_eq_false hb
        have hm0 : m = 0 := by
          rcases R.up m r hr' with ⟨h1, _⟩ | ⟨p, rp, hpa, _⟩
          · exact h1
          · omega
        subst hm0
        have hst : r.sub = t0 := R.root r hr'
        rw [hst]
        exact s_ret (ev_var (i := 4) rfl) fun G2 e7 => k.go (eH4.trans (eG.trans (eG1.trans e7)))
end
end Dl

set_option Elab.async false
set_option maxRecDepth 100000
set_option maxHeartbeats 4000000
set_option linter.all false
/-! the law's drawing: box, take, pick -/
namespace Dl
open PySem L2 Evl Dt
/-- the drawing's state at b -/
def Box (H : Hp) (b : Addr) : Prop := ∃ g s : Int, H b = some (.lst [.int g, .int s]) ∧ 0 ≤ g ∧ 1 ≤ s ∧ s ≤ 2147483587
/-- all but b stays -/
def ExB (b : Addr) (H H' : Hp) : Prop := ∀ a o, H a = some o → a ≠ b → H' a = some o
theorem ExB.trans {b : Addr} {H H1 H2 : Hp} (x : ExB b H H1) (y : ExB b H1 H2) : ExB b H H2 := fun a o h n => y a o (x a o h n) n
theorem ExB.of {b : Addr} {H H1 : Hp} (x : Ex H H1) : ExB b H H1 := fun a o h _ => x a o h
theorem ExB.upd {b : Addr} {H : Hp} {o : HO} : ExB b H (upd H b o) := fun a u h n => (upd_ne n).trans h
theorem ExB.cut {b : Addr} {S : List Addr} {H H1 : Hp} (x : ExB b H H1) : Ex (cut (b :: S) H) (cut (b :: S) H1) := fun a o h => by
  obtain ⟨h1, h2⟩ := cut_some h
  rw [cut_out h1]
  exact x a o h2 fun z => h1 (z ▸ List.mem_cons_self)
theorem Box.mono {b : Addr} {H H1 : Hp} (x : Ex H H1) (h : Box H b) : Box H1 b := let ⟨g, s, h1, h2⟩ := h; ⟨g, s, x _ _ h1, h2⟩
section
variable {K : PySem.W.Frag} {σ : L2.St} {H : Hp} {ta tb te tl : TE} {v : V}
theorem ev_int1 {i : Int} (h : Ev ta σ H (.int i)) : Ev (tCB (fun xs H Q => (∃ i, xs = [V.int i] ∧ Q (.int i) H) ∨ ∃ k, xs = [V.bl k] ∧ Q (.int (if k then 1 else 0)) H) (tCons ta tNil)) σ H (.int i) := fun H1 e Q q =>
  h H1 e _ fun H2 e2 => .inl ⟨i, rfl, q H2 e2⟩
theorem ev_abs {i : Int} (h : Ev ta σ H (.int i)) : Ev (tCB (fun xs H Q => ∃ i, xs = [V.int i] ∧ Q (.int (if i < 0 then -i else i)) H) (tCons ta tNil)) σ H (.int (if i < 0 then -i else i)) := fun H1 e Q q =>
  h H1 e _ fun H2 e2 => ⟨i, rfl, q H2 e2⟩
end
section
variable {P : Program} {w : World} {K : PySem.W.Frag} {mg : Str → Option Value} {base : Heap} {f C pF : Addr} {fd : FuncData}
def spBox (K : PySem.W.Frag) : Sp := fun vs H Q _ => ∃ (v : V) (ns : List Int) (k : Nat), vs = [v, .int (k : Int)] ∧ LI K H v ns ∧ ns.length ≤ 100000 ∧ k ≤ 1000 ∧ ∀ b H', H b = none → Ex H H' → Box H' b → Q (.ref b) H'
abbrev s_law_box : Stmt := topS 33
abbrev N_law_box : List Str := ["_law_script", "_law_k", "_law_cell", "_law_great"]
theorem sc_law_box : FnScope N_law_box ["_law_script", "_law_k"] (defScope s_law_box) := ⟨rfl, rfl, rfl, by decide +kernel, rfl, by decide +kernel, by decide +kernel⟩

theorem ok_law_box (F : Fun K "_law_box" "_law_box" s_law_box f fd) (T : Nm mg) : FnOk P w K mg base CX0 1 f fd ["_law_script", "_law_k"] (spBox K) := by
  refine F.ok sc_law_box (fun vs H Q E h => ?_) (fun cdv A' outer s H vs Q E hr h => ?_)
  · obtain ⟨v, ns, k, rfl, _⟩ := h
    rfl
  · obtain ⟨v, ns, k, rfl, ⟨a, rfl, hl⟩, hn, hk, q⟩ := h
    have nd := sc_law_box.nd
    refine ⟨_, (pss_cons (ps_set (i := 2) nd rfl (Or.inl rfl) (pe_op op_add (pe_op op_mul pe_int (pv 1)) pe_int))
  (pss_cons (ps_if (pt_cmpR op_lt (pv 1) (pe_callB call_len_seq (by rfl) T.n_len (by decide +kernel) (pa_cons (pv 0) pa_nil)) (nomark _)) (pss_one (ps_set (i := 2) nd rfl (Or.inl rfl) (pe_callB call_abs (by rfl) T.n_abs (by decide +kernel) (pa_cons (pe_callTy call_int1 (by rfl) T.n_int (by decide +kernel) (pa_cons (pe_ix ix_list (pv 0) (pv 1) (fun _ _ => rfl)) pa_nil)) pa_nil)))) (pss_one (ps_if (pt_cmpR op_gt (pe_callB call_len_seq (by rfl) T.n_len (by decide +kernel) (pa_cons (pv 0) pa_nil)) pe_int (nomark _)) (pss_one (ps_set (i := 2) nd rfl (Or.inl rfl) (pe_op op_add (pv 2) (pe_op op_mul (pe_op op_mod (pe_callTy call_int1 (by rfl) T.n_int (by decide +kernel) (pa_cons (pe_callB call_abs (by rfl) T.n_abs (by decide +kernel) (pa_cons (pe_callTy call_int1 (by rfl) T.n_int (by decide +kernel) (pa_cons (pe_ix ix_list (pv 0) (pe_op op_mod (pe_callTy call_int1 (by rfl) T.n_int (by decide +kernel) (pa_cons (pv 1) pa_nil)) (pe_callB call_len_seq (by rfl) T.n_len (by decide +kernel) (pa_cons (pv 0) pa_nil))) (fun _ _ => rfl)) pa_nil)) pa_nil)) pa_nil)) pe_int) pe_int)))) pss_nil)))
  (pss_cons (ps_set (i := 3) nd rfl (Or.inl rfl) (pe_ifExp (pt_cmpR op_ge (pv 2) (pe_op op_pow pe_int pe_int) (nomark _)) (pv 2) pe_int))
  (pss_one (ps_ret (pe_lst (pa_cons (pv 3) (pa_cons (pe_op op_add (pe_op op_mod (pe_callTy call_int1 (by rfl) T.n_int (by decide +kernel) (pa_cons (pe_op op_add (pe_op op_mul (pe_op op_mod (pe_callTy call_int1 (by rfl) T.n_int (by decide +kernel) (pa_cons (pv 2) pa_nil)) pe_int) pe_int) (pe_op op_mul pe_int (pv 1))) pa_nil)) pe_int) pe_int) pa_nil)))))))), ?_⟩
    have len : ∀ {x2 x3 : Option V} {H1 : Hp}, Ex H H1 → Ev (tCB (rLenS K) (tCons (tVar 0) tNil)) [some (.ref a), some (.int (k : Int)), x2, x3] H1 (.int (ns.length : Int)) := fun {x2 x3 H1} e => by
      have := ev_len (K := K) (ev_var (σ := [some (.ref a), some (.int (k : Int)), x2, x3]) (i := 0) (H := H1) rfl) (ex_l e hl)
      rwa [List.length_map] at this
    refine q_asg (v := .int (7927 * (k : Int) + 683)) (ev_op (ev_op ev_c (ev_var (i := 1) rfl) (rv_I (.inl ⟨by decide, by decide⟩))) ev_c rv_I0) fun H1 e1 => ?_
    -- the cell
    have key : ∀ (c : Int) (H2 : Hp), 0 ≤ c → Ex H H2 → tSeq (tAsg (tIf (tTest (tOp (rI0 fun i j => .bl (decide (j ≤ i))) (tVar 2) (tOp (rI CPow fun i j => .int (i ^ j.toNat)) (tC (.int 10)) (tC (.int 18))))) (tVar 2) (tC (.int 0))) (gName 3))
        (tRet (tLst (tCons (tVar 3) (tCons (tOp (rI0 fun i j => .int (i + j)) (tOp (rI (fun _ j => 0 < j) fun i j => .int (i % j)) (tCB (fun xs H Q => (∃ i, xs = [V.int i] ∧ Q (.int i) H) ∨ ∃ k, xs = [V.bl k] ∧ Q (.int (if k then 1 else 0)) H)
          (tCons (tOp (rI0 fun i j => .int (i + j)) (tOp (rI CMul fun i j => .int (i * j)) (tOp (rI (fun _ j => 0 < j) fun i j => .int (i % j)) (tCB (fun xs H Q => (∃ i, xs = [V.int i] ∧ Q (.int i) H) ∨ ∃ k, xs = [V.bl k] ∧ Q (.int (if k then 1 else 0)) H) (tCons (tVar 2) tNil)) (tC (.int 2147483587))) (tC (.int 69109))) (tOp (rI CMul fun i j => .int (i * j)) (tC (.int 683)) (tVar 1))) tNil)) (tC (.int 2147483587))) (tC (.int 1))) tNil))))
        { nx := fun _ H' => Q .non H', rt := Q } [some (.ref a), some (.int (k : Int)), some (.int c), none] H2 := fun c H2 hc e2 => by
      refine q_asg (v := .int (if decide ((10 : Int) ^ (18 : Int).toNat ≤ c) = true then c else 0)) (ev_if (b := decide ((10 : Int) ^ (18 : Int).toNat ≤ c)) (et_test (ev_op (ev_var (i := 2) rfl) (ev_op ev_c ev_c (rv_I ⟨by decide, by decide, by decide⟩)) rv_I0)) (fun h => by rw [h]; exact ev_var (i := 2) rfl) (fun h => by rw [h]; exact ev_c)) fun H3 e3 => ?_
      refine s_retL (el_lst (ea_cons (ev_var (i := 3) rfl) (ea_cons (ev_op (ev_op (ev_int1 (ev_op (ev_op (ev_op (ev_int1 (ev_var (i := 2) rfl)) ev_c (rv_I (show (0 : Int) < 2147483587 by decide))) ev_c (rv_I (.inr ⟨by decide, by decide⟩))) (ev_op ev_c (ev_var (i := 1) rfl) (rv_I (.inl ⟨by decide, by decide⟩))) rv_I0)) ev_c (rv_I (show (0 : Int) < 2147483587 by decide))) ev_c rv_I0) ea_nil)) (show 2 ≤ 100000 by decide)) fun b H4 hb e4 h4 => ?_
      refine q b H4 (fresh_back (e2.trans e3) hb) (e2.trans (e3.trans e4)) ⟨_, _, h4, ?_, ?_, ?_⟩
      · split <;> omega
      · have := Int.emod_nonneg (c % 2147483587 * 69109 + 683 * (k : Int)) (show (2147483587 : Int) ≠ 0 by decide)
        omega
      · have := Int.emod_lt_of_pos (c % 2147483587 * 69109 + 683 * (k : Int)) (show (0 : Int) < 2147483587 by decide)
        omega
    have habs : ∀ i : Int, 0 ≤ (if i < 0 then -i else i) := fun i => by split <;> omega
    refine q_if (b := decide ((k : Int) < (ns.length : Int))) (et_test (ev_op (ev_var (i := 1) rfl) (len e1) rv_I0)) (fun hb H2 e2 => ?_) (fun hb H2 e2 => ?_)
    · have hlt : k < ns.length := by have := of_decide_eq_true hb; omega
      refine s_asg (ev_abs (ev_int1 (ev_ixV (ev_var (i := 0) rfl) (ex_l (e1.trans e2) hl) (ev_var (i := 1) rfl) (atI_map (List.getElem?_eq_getElem hlt))))) fun H3 e3 => ?_
      exact key _ H3 (habs _) (e1.trans (e2.trans e3))
    · refine s_if (b := decide ((0 : Int) < (ns.length : Int))) (et_test (ev_op (len (e1.trans e2)) ev_c rv_I0)) (fun hb2 H3 e3 => ?_) (fun hb2 H3 e3 => key _ H3 (by omega) (e1.trans (e2.trans e3)))
      have hpos : 0 < ns.length := by have := of_decide_eq_true hb2; omega
      have hm : k % ns.length < ns.length := Nat.mod_lt _ hpos
      have e13 := e1.trans (e2.trans e3)
      have hix : Ev (tOp (rI (fun _ j => 0 < j) fun i j => .int (i % j)) (tCB (fun xs H Q => (∃ i, xs = [V.int i] ∧ Q (.int i) H) ∨ ∃ k, xs = [V.bl k] ∧ Q (.int (if k then 1 else 0)) H) (tCons (tVar 1) tNil)) (tCB (rLenS K) (tCons (tVar 0) tNil)))
          [some (.ref a), some (.int (k : Int)), some (.int (7927 * (k : Int) + 683)), none] H3 (.int ((k % ns.length : Nat) : Int)) :=
        ev_is (ev_op (ev_int1 (ev_var (i := 1) rfl)) (len e13) (rv_I (show (0 : Int) < (ns.length : Int) by omega))) (by rw [Int.natCast_emod])
      refine s_asg (ev_op (ev_var (i := 2) rfl) (ev_op (ev_op (ev_int1 (ev_abs (ev_int1 (ev_ixV (ev_var (i := 0) rfl) (ex_l e13 hl) hix (atI_map (List.getElem?_eq_getElem hm)))))) ev_c (rv_I (show (0 : Int) < 2147483587 by decide))) ev_c (rv_I (.inr ⟨by decide, by decide⟩))) rv_I0) fun H4 e4 => ?_
      refine key _ H4 ?_ (e13.trans e4)
      have := Int.emod_nonneg (if ns[k % ns.length] < 0 then -ns[k % ns.length] else ns[k % ns.length]) (show (2147483587 : Int) ≠ 0 by decide)
      omega
end
end Dl

set_option Elab.async false
set_option maxRecDepth 100000
set_option maxHeartbeats 4000000
set_option linter.all false
namespace Dl
open PySem L2 Evl Dt
section
variable {P : Program} {w : World} {K : PySem.W.Frag} {mg : Str → Option Value} {base : Heap} {f C pF : Addr} {fd : FuncData}
def spTake : Sp := fun vs H Q _ => ∃ (b : Addr) (m : Int), vs = [.ref b, .int m] ∧ Box H b ∧ 1 ≤ m ∧ m < 1073741824 ∧ ∀ (d : Int) H', 0 ≤ d → d < m → Box H' b → ExB b H H' → Q (.int d) H'
abbrev s_law_take : Stmt := topS 34
abbrev N_law_take : List Str := ["_law_box_here", "_law_many", "_law_digit", "_law_raw"]
theorem sc_law_take : FnScope N_law_take ["_law_box_here", "_law_many"] (defScope s_law_take) := ⟨rfl, rfl, rfl, by decide +kernel, rfl, by decide +kernel, by decide +kernel⟩

theorem ok_law_take (F : Fun K "_law_take" "_law_take" s_law_take f fd) (T : Nm mg) : FnOk P w K mg base CX0 1 f fd ["_law_box_here", "_law_many"] spTake := by
  refine F.ok sc_law_take (fun vs H Q E h => ?_) (fun cdv A' outer s H vs Q E hr h => ?_)
  · obtain ⟨b, m, rfl, _⟩ := h
    rfl
  · obtain ⟨b, m, rfl, ⟨g, s, hb, hg, hs1, hs2⟩, hm1, hm2, q⟩ := h
    have nd := sc_law_take.nd
    refine ⟨_, (pss_cons (ps_if (pt_cmpR op_gt (pe_ix ix_list (pv 0) pe_int (fun _ _ => rfl)) pe_int (nomark _)) (pss_cons (ps_set (i := 2) nd rfl (Or.inl rfl) (pe_op op_mod (pe_callTy call_int1 (by rfl) T.n_int (by decide +kernel) (pa_cons (pe_ix ix_list (pv 0) pe_int (fun _ _ => rfl)) pa_nil)) (pv 1)))
  (pss_cons (ps_asg (pe_op op_fdiv (pe_ix ix_list (pv 0) pe_int (fun _ _ => rfl)) (pv 1)) (pg_sub (pv 0) pe_int set_list))
  (pss_one (ps_ret (pv 2))))) pss_nil)
  (pss_cons (ps_set (i := 3) nd rfl (Or.inl rfl) (pe_op op_mod (pe_callTy call_int1 (by rfl) T.n_int (by decide +kernel) (pa_cons (pe_op op_add (pe_op op_mul (pe_ix ix_list (pv 0) pe_int (fun _ _ => rfl)) pe_int) pe_int) pa_nil)) pe_int))
  (pss_cons (ps_asg (pe_op op_add (pe_op op_mod (pe_callTy call_int1 (by rfl) T.n_int (by decide +kernel) (pa_cons (pe_op op_add (pe_op op_mul (pv 3) pe_int) pe_int) pa_nil)) pe_int) pe_int) (pg_sub (pv 0) pe_int set_list))
  (pss_one (ps_ret (pe_op op_mod (pe_callTy call_int1 (by rfl) T.n_int (by decide +kernel) (pa_cons (pe_op op_fdiv (pe_op op_add (pe_op op_mul (pv 3) pe_int) (pe_ix ix_list (pv 0) pe_int (fun _ _ => rfl))) pe_int) pa_nil)) (pv 1))))))), ?_⟩
    have x0 : ∀ {x2 x3 : Option V} {G : Hp} {g s : Int}, G b = some (.lst [.int g, .int s]) → Ev (tOp (rIxL K) (tVar 0) (tC (.int 0))) [some (.ref b), some (.int m), x2, x3] G (.int g) := fun h => ev_ixV (ev_var (i := 0) rfl) (sq_of h) ev_c rfl
    have x1 : ∀ {x2 x3 : Option V} {G : Hp} {g s : Int}, G b = some (.lst [.int g, .int s]) → Ev (tOp (rIxL K) (tVar 0) (tC (.int 1))) [some (.ref b), some (.int m), x2, x3] G (.int s) := fun h => ev_ixV (ev_var (i := 0) rfl) (sq_of h) ev_c rfl
    refine q_when (et_test (ev_op (x0 hb) ev_c rv_I0)) (fun hc H1 e1 => ?_) (fun hc H1 e1 => ?_)
    · have hg0 : 0 < g := of_decide_eq_true hc
      have h1 := e1 _ _ hb
      refine q_asg (ev_op (ev_int1 (x0 h1)) (ev_var (i := 1) rfl) (rv_I (show 0 < m by omega))) fun H2 e2 => ?_
      have h2 := e2 _ _ h1
      refine q_setL (j := 0) h2 (ev_op (x0 h2) (ev_var (i := 1) rfl) (rv_I ⟨by omega, hm2⟩)) (ev_var (i := 0) rfl) ev_c (by simp) fun H3 e3 => ?_
      refine s_ret (ev_var (i := 2) rfl) fun H4 e4 => ?_
      refine q _ H4 (Int.emod_nonneg _ (by omega)) (Int.emod_lt_of_pos _ (by omega)) ⟨g / m, s, e4 _ _ upd_same, Int.ediv_nonneg hg (by omega), hs1, hs2⟩ ?_
      exact ((ExB.of (e1.trans (e2.trans e3))).trans ExB.upd).trans (.of e4)
    · have h1 := e1 _ _ hb
      have big : ∀ {i j : Int}, -(2 ^ 64) < j → j < 2 ^ 64 → CMul i j := fun a b => .inr ⟨a, b⟩
      refine q_asg (ev_op (ev_int1 (ev_op (ev_op (x1 h1) ev_c (rv_I (big (by decide) (by decide)))) ev_c rv_I0)) ev_c (rv_I (show (0 : Int) < 2147483399 by decide))) fun H2 e2 => ?_
      have h2 := e2 _ _ h1
      refine q_setL (j := 1) h2 (ev_op (ev_op (ev_int1 (ev_op (ev_op (ev_var (i := 3) rfl) ev_c (rv_I (big (by decide) (by decide)))) ev_c rv_I0)) ev_c (rv_I (show (0 : Int) < 2147483587 by decide))) ev_c rv_I0) (ev_var (i := 0) rfl) ev_c (by simp) fun H3 e3 => ?_
      have h3 : ∀ (G : Hp) (o : HO), upd G b o b = some o := fun G o => upd_same
      refine s_ret (ev_op (ev_int1 (ev_op (ev_op (ev_op (ev_var (i := 3) rfl) ev_c (rv_I (big (by decide) (by decide)))) (x1 (g := g) (h3 _ _)) rv_I0) ev_c (rv_I ⟨by decide, by decide⟩))) (ev_var (i := 1) rfl) (rv_I (show 0 < m by omega))) fun H4 e4 => ?_
      refine q _ H4 (Int.emod_nonneg _ (by omega)) (Int.emod_lt_of_pos _ (by omega)) ⟨g, _, e4 _ _ upd_same, hg, ?_, ?_⟩ ?_
      · have := Int.emod_nonneg ((s * 40692 + 97) % 2147483399 * 40014 + 11) (show (2147483587 : Int) ≠ 0 by decide)
        omega
      · have := Int.emod_lt_of_pos ((s * 40692 + 97) % 2147483399 * 40014 + 11) (show (0 : Int) < 2147483587 by decide)
        omega
      · exact ((ExB.of (e1.trans (e2.trans e3))).trans ExB.upd).trans (.of e4)
/-- take from a list that is not the box -/
def spPick (K : PySem.W.Frag) : Sp := fun vs H Q _ => ∃ (b l : Addr) (xs : List V), vs = [.ref b, .ref l] ∧ Box H b ∧ SqL K (cut [b] H) l xs ∧ xs ≠ [] ∧ xs.length ≤ 1000 ∧ ∀ (i : Nat) (x : V) H', xs[i]? = some x → Box H' b → ExB b H H' → Q x H'
abbrev s_law_pick : Stmt := topS 35
abbrev N_law_pick : List Str := ["_law_box_here", "_law_some"]
theorem sc_law_pick : FnScope N_law_pick ["_law_box_here", "_law_some"] (defScope s_law_pick) := ⟨rfl, rfl, rfl, by decide +kernel, rfl, by decide +kernel, by decide +kernel⟩

theorem ok_law_pick (F : Fun K "_law_pick" "_law_pick" s_law_pick f fd) (T : Nm mg) (h_law_take : Has P w K mg base 1 "_law_take" ["_law_box_here", "_law_many"] spTake) : FnOk P w K mg base CX0 2 f fd ["_law_box_here", "_law_some"] (spPick K) := by
  refine F.ok sc_law_pick (fun vs H Q E h => ?_) (fun cdv A' outer s H vs Q E hr h => ?_)
  · obtain ⟨b, l, xs, rfl, _⟩ := h
    rfl
  · obtain ⟨b, l, xs, rfl, hb, hl, hne, hlen, q⟩ := h
    have nd := sc_law_pick.nd
    refine ⟨_, (pss_one (ps_ret (pe_ix ix_list (pv 1) (pe_has h_law_take (hr.mono (by first | decide | omega)) (pa_cons (pv 0) (pa_cons (pe_callB call_len_seq (by rfl) T.n_len (by decide +kernel) (pa_cons (pv 1) pa_nil)) pa_nil))) (fun _ _ => rfl)))), ?_⟩
    have hpos : 0 < xs.length := List.length_pos_iff.mpr hne
    refine ⟨_, rfl, _, rfl, ev_len (K := K) (ev_var (σ := start N_law_pick [.ref b, .ref l]) (i := 1) rfl) (ex_l (cut_le _ _) hl) H (Ex.refl H) _ fun H1 e1 => ⟨b, xs.length, rfl, hb.mono e1, by omega, by omega, fun d H2 h0 h1 hb2 ex => ?_⟩⟩
    have hd : xs[d.toNat]? = some (xs[d.toNat]'(by omega)) := List.getElem?_eq_getElem _
    have exH := (ExB.of e1).trans ex
    refine ⟨l, xs, d, _, rfl, rfl, ex_l (exH.cut.trans (cut_le _ _)) hl, ?_, q d.toNat _ H2 hd hb2 exH⟩
    have := atI_nat hd
    rwa [Int.toNat_of_nonneg h0] at this
end
end Dl

set_option Elab.async false
set_option maxRecDepth 100000
set_option maxHeartbeats 2000000
set_option linter.all false
namespace Dt
open PySem L2 Evl
section
variable {K : PySem.W.Frag} {S : List Addr} {σ : L2.St} {H H' : Hp} {ta tb te tl : TE} {α : Type}
/-- [e for x in tuple] of data: what each gives is known -/
theorem el_lcMapT {zs : List α} {j : Nat} {vs : List Nat} (enc : α → PyData) (g : α → V) (h : EvD K S tl σ H (.tuple (zs.map enc))) (hz : zs.length ≤ 40000) (hw : ∀ x, wipe ((wipe σ vs).set j (some x)) vs = wipe σ vs)
    (he : ∀ (z : α) (v : V) H1, z ∈ zs → Ex H H1 → Dp K (cut S H1) v (enc z) → Ev te ((wipe σ vs).set j (some v)) H1 (g z)) : EvL (tLc (iTup K tl) (gName j) tYes te vs) σ H (zs.map g) := fun H0 e Q k => h H0 e _ fun v H1 e1 f => by
  obtain ⟨a, xs, rfl, hs, hx⟩ := dp_tup f
  have e01 := e.trans e1
  have hlen : xs.length = zs.length := by have := dpa_len hx; simpa using this
  refine ⟨a, rfl, ⟨xs, ex_t (cut_le S H1) hs⟩, fun Dl hD => ?_⟩
  refine lc_tup (xs := xs) (fun (i : Nat) (G : Hp) => Ex H1 G ∧ G Dl = some (.lst ((zs.take i).map g))) ⟨Ex.new hD, upd_same⟩
    (fun i G _ p => ex_t ((cut_le S H1).trans p.1) hs) (fun i x G hi p => ?_) (fun G p => ?_)
  · obtain ⟨eG, hG⟩ := p
    obtain ⟨d, hd, hxd⟩ := dpa_got hx hi
    rw [List.getElem?_map] at hd
    obtain ⟨z, hz', rfl⟩ := Option.map_eq_some_iff.mp hd
    have hil := (List.getElem?_eq_some_iff.mp hi).1
    refine ⟨hw x, ?_⟩
    show te _ _ _
    refine he z x G (List.mem_of_getElem? hz') (e01.trans eG) (dp_mono (cut_mono eG) _ hxd) G (Ex.refl G) _ fun H4 e4 => ⟨_, e4 _ _ hG, sz_lt (by rw [List.length_map, List.length_take]; omega), Ex.mut (eG.trans e4) hD, ?_⟩
    rw [upd_same, List.take_succ, hz', List.map_append]
    rfl
  · obtain ⟨eG, hG⟩ := p
    rw [hlen, List.take_length] at hG
    exact k Dl G (fresh_back e1 hD) (e1.trans eG) hG
theorem ev_maxL {ns : List Int} {m : Int} (h : EvL tl σ H (ns.map V.int)) (hn : 0 < ns.length) (hm : m ∈ ns) (hl : ∀ y ∈ ns, y ≤ m) : Ev (tCB (rMax K) (tCons tl tNil)) σ H (.int m) := fun H1 e Q q =>
  h H1 e _ fun p H2 hp e2 h2 => ⟨p, ns, rfl, sq_of h2, hn, fun m' h3 h4 => by
    rw [show m' = m from Int.le_antisymm (hl m' h3) (h4 m hm)]
    exact q H2 e2⟩
theorem ev_minV {a : Addr} {ns : List Int} {m : Int} (h : Ev tl σ H (.ref a)) (hs : SqL K H a (ns.map V.int)) (hn : 0 < ns.length) (hm : m ∈ ns) (hl : ∀ y ∈ ns, m ≤ y) : Ev (tCB (rMin K) (tCons tl tNil)) σ H (.int m) := fun H1 e Q q =>
  h H1 e _ fun H2 e2 => ⟨a, ns, rfl, ex_l (e.trans e2) hs, hn, fun m' h3 h4 => by
    rw [show m' = m from Int.le_antisymm (h4 m hm) (hl m' h3)]
    exact q H2 e2⟩
theorem ev_maxV {a : Addr} {ns : List Int} {m : Int} (h : Ev tl σ H (.ref a)) (hs : SqL K H a (ns.map V.int)) (hn : 0 < ns.length) (hm : m ∈ ns) (hl : ∀ y ∈ ns, y ≤ m) : Ev (tCB (rMax K) (tCons tl tNil)) σ H (.int m) := fun H1 e Q q =>
  h H1 e _ fun H2 e2 => ⟨a, ns, rfl, ex_l (e.trans e2) hs, hn, fun m' h3 h4 => by
    rw [show m' = m from Int.le_antisymm (hl m' h3) (h4 m hm)]
    exact q H2 e2⟩
end
end Dt

set_option Elab.async false
set_option maxRecDepth 100000
set_option maxHeartbeats 4000000
set_option linter.all false
/-! the law's lamp -/
namespace Dl
open PySem L2 Evl Dt
def b2i (b : Bool) : Int := if b then 1 else 0
mutual
def T.lit (a : Nat → Bool) : T → Bool
  | .lev z => a z
  | .knot w ps => if w then T.litAll a ps else T.litAny a ps
def T.litAll (a : Nat → Bool) : List T → Bool
  | [] => true
  | t :: r => t.lit a && T.litAll a r
def T.litAny (a : Nat → Bool) : List T → Bool
  | [] => false
  | t :: r => t.lit a || T.litAny a r
end
mutual
def T.height : T → Nat
  | .lev _ => 1
  | .knot _ ps => T.heights ps + 1
def T.heights : List T → Nat
  | [] => 0
  | t :: r => max t.height (T.heights r)
end
theorem height_pos (t : T) : 1 ≤ t.height := by
  cases t with
  | lev z => rw [T.height]; exact Nat.le_refl _
  | knot w ps => rw [T.height]; omega
theorem height_mem : ∀ {ps : List T} {t : T}, t ∈ ps → t.height ≤ T.heights ps
  | a :: r, t, m => by
    rw [T.heights]
    rcases List.mem_cons.mp m with e | m
    · rw [e]; omega
    · have := height_mem m
      omega
theorem litAll_eq (a : Nat → Bool) : ∀ ps : List T, T.litAll a ps = ps.all fun t => t.lit a
  | [] => by rw [T.litAll]; rfl
  | t :: r => by rw [T.litAll, litAll_eq a r]; rfl
theorem litAny_eq (a : Nat → Bool) : ∀ ps : List T, T.litAny a ps = ps.any fun t => t.lit a
  | [] => by rw [T.litAny]; rfl
  | t :: r => by rw [T.litAny, litAny_eq a r]; rfl
theorem min_all {bs : List Bool} (h : bs ≠ []) : b2i (bs.all id) ∈ bs.map b2i ∧ ∀ y ∈ bs.map b2i, b2i (bs.all id) ≤ y := by
  cases hb : bs.all id with
  | true =>
    rw [List.all_eq_true] at hb
    obtain ⟨x, r, rfl⟩ := List.exists_cons_of_ne_nil h
    refine ⟨List.mem_map.mpr ⟨x, List.mem_cons_self, by rw [show x = true from hb x List.mem_cons_self]⟩, fun y hy => ?_⟩
    obtain ⟨z, hz, rfl⟩ := List.mem_map.mp hy
    rw [show z = true from hb z hz]
    exact Int.le_refl _
  | false =>
    rw [List.all_eq_false] at hb
    obtain ⟨x, hx, hn⟩ := hb
    refine ⟨List.mem_map.mpr ⟨x, hx, by rw [show x = false by simpa using hn]⟩, fun y hy => ?_⟩
    obtain ⟨z, _, rfl⟩ := List.mem_map.mp hy
    cases z <;> decide
theorem max_any {bs : List Bool} (h : bs ≠ []) : b2i (bs.any id) ∈ bs.map b2i ∧ ∀ y ∈ bs.map b2i, y ≤ b2i (bs.any id) := by
  cases hb : bs.any id with
  | true =>
    rw [List.any_eq_true] at hb
    obtain ⟨x, hx, hn⟩ := hb
    refine ⟨List.mem_map.mpr ⟨x, hx, by rw [show x = true from hn]⟩, fun y hy => ?_⟩
    obtain ⟨z, _, rfl⟩ := List.mem_map.mp hy
    cases z <;> decide
  | false =>
    rw [List.any_eq_false] at hb
    obtain ⟨x, r, rfl⟩ := List.exists_cons_of_ne_nil h
    refine ⟨List.mem_map.mpr ⟨x, List.mem_cons_self, by rw [show x = false by simpa using hb x List.mem_cons_self]⟩, fun y hy => ?_⟩
    obtain ⟨z, hz, rfl⟩ := List.mem_map.mp hy
    rw [show z = false by simpa using hb z hz]
    exact Int.le_refl _
/-- the setting's numbers are those of a -/
def Tells (xs : List Int) (a : Nat → Bool) (L : List Nat) : Prop := ∀ z ∈ L, xs[z]? = some (b2i (a z))
section
variable {P : Program} {w : World} {K : PySem.W.Frag} {mg : Str → Option Value} {base : Heap} {f C pF : Addr} {fd : FuncData}
def spLamp (K : PySem.W.Frag) (n : Nat) : Sp := fun vs H Q _ => ∃ (S : List Addr) (v u : V) (t : T) (xs : List Int) (a : Nat → Bool), vs = [v, u] ∧ Dom S H ∧ Dp K (cut S H) v t.d ∧ Dp K (cut S H) u (.tuple (nums xs)) ∧ t.form = true ∧ t.height ≤ n ∧ Tells xs a t.levs ∧ RetV (.int (b2i (t.lit a))) H Q
theorem ev_lamp {S : List Addr} {σ : L2.St} {H : Hp} {ta tb : TE} {t : T} {xs : List Int} {a : Nat → Bool} {n : Nat} {E : XK} (D : Dom S H) (h1 : EvD K S ta σ H t.d) (h2 : EvD K S tb σ H (.tuple (nums xs))) (hf : t.form = true) (hn : t.height ≤ n) (ht : Tells xs a t.levs) :
    Ev (tCall (spLamp K n) [] E (tCons ta (tCons tb tNil))) σ H (.int (b2i (t.lit a))) := fun H1 e Q q =>
  h1 H1 e _ fun v H2 e2 f2 => h2 H2 (e.trans e2) _ fun u H3 e3 f3 => ⟨S, v, u, t, xs, a, rfl, D.mono (e.trans (e2.trans e3)), dp_mono (cut_mono e3) _ f2, f3, hf, hn, ht, fun H4 e4 => q H4 (e2.trans (e3.trans e4))⟩
abbrev s_law_lamp : Stmt := topS 37
abbrev N_law_lamp : List Str := ["_law_tree", "_law_setting", "_law_lamps", "_law_part_here"]
theorem sc_law_lamp : FnScope N_law_lamp ["_law_tree", "_law_setting"] (defScope s_law_lamp) := ⟨rfl, rfl, rfl, by decide +kernel, rfl, by decide +kernel, by decide +kernel⟩

theorem ok_law_lamp (F : Fun K "_law_lamp" "_law_lamp" s_law_lamp f fd) (T : Nm mg) (hm : mg "_law_lamp" = some (.ref f)) (kp : PySem.W.keepIn K (.ref f) = true) (bd : Binds K fd ["_law_tree", "_law_setting"] []) :
    ∀ n : Nat, FnOk P w K mg base CX0 (n + 1) f fd ["_law_tree", "_law_setting"] (spLamp K n) := by
  intro n
  induction n with
  | zero =>
    refine F.ok sc_law_lamp (fun vs H Q E h => ?_) (fun cdv A' outer s H vs Q E hr h => ?_)
    · obtain ⟨S, v, u, t, xs, a, rfl, _⟩ := h
      rfl
    · obtain ⟨S, v, u, t, xs, a, rfl, _, _, _, _, h0, _⟩ := h
      exact absurd (height_pos t) (by omega)
  | succ n ih =>
    have h_law_lamp : Has P w K mg base (n + 1) "_law_lamp" ["_law_tree", "_law_setting"] (spLamp K n) := ⟨f, fd, ih, hm, kp, bd⟩
    refine F.ok sc_law_lamp (fun vs H Q E h => ?_) (fun cdv A' outer s H vs Q E hr h => ?_)
    · obtain ⟨S, v, u, t, xs, a, rfl, _⟩ := h
      rfl
    · obtain ⟨S, v, u, t, xs, a, rfl, D, hv, hu, hf, hh, ht, k⟩ := h
      have nd := sc_law_lamp.nd
      have hu64 := hr.units
      refine ⟨_, (pss_cons (ps_if (pt_val (pe_callB call_isi (by rfl) T.n_isinstance (by decide +kernel) (pa_cons (pv 0) (pa_cons (pe_bltn (v := .ty "int") (u := .type "int") (by rfl) T.n_int (by decide +kernel) rfl) pa_nil)))) (pss_one (ps_ret (pe_ix ix_tup (pv 1) (pv 0) (fun _ _ => rfl)))) pss_nil)
  (pss_cons (ps_setLc (i := 2) (own := [("_law_part_here", 3)]) rfl nd rfl rfl (sw_true rfl rfl rfl (by decide +kernel)) (pi_tup (pe_ix ix_tup (pv 0) pe_int (fun _ _ => rfl))) (blkOk_by (own := [("_law_part_here", 3)]) (N := N_law_lamp) (sc := defScope s_law_lamp) (by decide +kernel)) (fun _ _ _ _ _ => (pg_name (i := 3) nd rfl (Or.inl rfl))) (fun _ _ _ _ _ => pts_nil) (fun _ _ _ _ _ => (pe_has h_law_lamp (hr.mono (by first | decide | omega)) (pa_cons (pv 3) (pa_cons (pv 1) pa_nil)))))
  (pss_one (ps_ret (pe_ifExp (pt_cmpR op_eq (pe_ix ix_tup (pv 0) pe_int (fun _ _ => rfl)) pe_str (nomark _)) (pe_callB (cr_min rfl) (by rfl) T.n_min (by decide +kernel) (pa_cons (pv 2) pa_nil)) (pe_callB (cr_max rfl) (by rfl) T.n_max (by decide +kernel) (pa_cons (pv 2) pa_nil))))))), ?_⟩
      have v0 : EvD K S (tVar 0) (start N_law_lamp [v, u]) H t.d := ed_var (i := 0) rfl hv
      have v1 : EvD K S (tVar 1) (start N_law_lamp [v, u]) H (.tuple (nums xs)) := ed_var (i := 1) rfl hu
      cases t with
      | lev z =>
        have hz := ht z (by rw [Dl.T.levs]; exact List.mem_singleton_self z)
        rw [Dl.T.d] at v0
        refine q_when (b := true) (et_B (ev_isi v0 (kit_int _ rfl))) (fun _ H1 e1 => ?_) (fun z => nomatch z)
        rw [Dl.T.lit] at k
        refine s_ret (EvD.int (K := K) (S := S) (ed_ixT (v1.mono e1) (v0.mono e1) (atI_nat (by unfold nums; rw [List.getElem?_map, hz]; rfl)))) fun H2 e2 => k.go (e1.trans e2)
      | knot w ps =>
        rw [Dl.T.form, Bool.and_eq_true, Bool.and_eq_true, decide_eq_true_eq, decide_eq_true_eq] at hf
        rw [Dl.T.height] at hh
        rw [Dl.T.levs] at ht
        rw [Dl.T.d, Dl.T.ds_map] at v0 hv
        have hpne : ps ≠ [] := fun z => by rw [z] at hf; exact absurd hf.1.1 (by decide)
        refine q_when (b := false) (et_B (ev_isi v0 (kit_int _ rfl))) (fun z => nomatch z) (fun _ H1 e1 => ?_)
        have i1 : EvD K S (tOp (rIxT K) (tVar 0) (tC (.int 1))) (start N_law_lamp [v, u]) H1 (.tuple (ps.map Dl.T.d)) := ed_ixT (v0.mono e1) ed_int rfl
        have hl := el_lcMapT (K := K) (S := S) (σ := start N_law_lamp [v, u]) (H := H1) (j := 3) (vs := [3]) (te := tCall (spLamp K n) [] E0 (tCons (tVar 3) (tCons (tVar 1) tNil))) Dl.T.d (fun t => V.int (b2i (t.lit a))) i1 (by omega) (fun x => rfl) (fun t x H2 hm e2 hx =>
          ev_lamp (D.mono (e1.trans e2)) (ed_var (i := 3) rfl hx) (ed_var (i := 1) rfl (dp_mono (cut_mono (e1.trans e2)) _ hu)) (forms_mem hf.2 t hm).1 (by have := height_mem hm; omega) fun z hz => ht z (by rw [levss_flat]; exact List.mem_flatMap.mpr ⟨t, hm, hz⟩))
        refine q_asgL hl fun l H2 hl2 e2 h2 => ?_
        have eh : ps.map (fun t => V.int (b2i (t.lit a))) = (((ps.map fun t => t.lit a).map b2i).map V.int) := by rw [List.map_map, List.map_map]; rfl
        rw [eh] at h2
        have hne2 : (ps.map fun t => t.lit a) ≠ [] := by simpa using hpne
        have hlen : 0 < ((ps.map fun t => t.lit a).map b2i).length := by rw [List.length_map, List.length_map]; exact List.length_pos_iff.mpr hpne
        have e12 := e1.trans e2
        have w0 : EvD K S (tOp (rIxT K) (tVar 0) (tC (.int 0))) [some v, some u, some (.ref l), none] H2 (.str (wd w)) := ed_ixT (ed_var (i := 0) rfl (dp_mono (cut_mono e12) _ hv)) ed_int rfl
        refine s_ret (v := .int (b2i ((Dl.T.knot w ps).lit a))) (ev_if (b := w) (et_is (et_test (ev_op w0.str ev_c (rv_eq rfl))) ?_) (fun hw => ?_) (fun hw => ?_)) fun H3 e3 => k.go (e12.trans e3)
        · cases w
          · exact decide_eq_false fun z => absurd (V.str.inj z) (by decide +kernel)
          · exact decide_eq_true rfl
        · subst hw
          obtain ⟨m1, m2⟩ := min_all hne2
          have e4 : (Dl.T.knot true ps).lit a = (ps.map fun t => t.lit a).all id := by rw [Dl.T.lit, if_pos rfl, litAll_eq, List.all_map]; rfl
          rw [e4]
          exact ev_minV (ev_var (i := 2) rfl) (sq_of h2) hlen m1 m2
        · subst hw
          obtain ⟨m1, m2⟩ := max_any hne2
          have e4 : (Dl.T.knot false ps).lit a = (ps.map fun t => t.lit a).any id := by rw [Dl.T.lit, if_neg Bool.false_ne_true, litAny_eq, List.any_map]; rfl
          rw [e4]
          exact ev_maxV (ev_var (i := 2) rfl) (sq_of h2) hlen m1 m2
end
end Dl

set_option Elab.async false
set_option maxRecDepth 100000
set_option maxHeartbeats 2000000
set_option linter.all false
namespace Dt
open PySem L2 Evl
section
variable {K : PySem.W.Frag} {S : List Addr} {σ : L2.St} {H H' : Hp} {ta tb te tl : TE} {ds es : List PyData} {tlo thi : TO}
theorem ed_catA (D : Dom S H) (ha : EvD K S ta σ H (.tuple ds)) (hb : EvD K S tb σ H (.tuple es)) (hz : ds.length + es.length ≤ 100000) : EvD K S (tOp (rCatA K) ta tb) σ H (.tuple (ds ++ es)) :=
  ed_op ha hb fun x y H1 e f g Q k => by
    obtain ⟨a, xs, rfl, hs, hx⟩ := dp_tup f
    obtain ⟨b, ys, rfl, ht, hy⟩ := dp_tup g
    have lx := dpa_len hx
    have ly := dpa_len hy
    refine ⟨a, b, xs, ys, rfl, rfl, ex_t (cut_le S H1) hs, ex_t (cut_le S H1) ht, by rw [lx, ly]; exact sz_of hz, fun h => ?_, fun _ h => ?_, fun _ _ p hp => ?_⟩
    · subst h
      have : ds = [] := List.eq_nil_of_length_eq_zero lx.symm
      subst this
      exact k _ H1 (Ex.refl H1) g
    · subst h
      have : es = [] := List.eq_nil_of_length_eq_zero ly.symm
      subst this
      rw [List.append_nil] at k
      exact k _ H1 (Ex.refl H1) f
    · exact k _ _ (Ex.new hp) (dp_newT (D.mono e) hp (dpa_app hx hy))
theorem ed_slA {lo hi : Option Int} (D : Dom S H) (h : EvD K S te σ H (.tuple ds)) (h1 : EvO tlo σ H lo) (h2 : EvO thi σ H hi) : EvD K S (tSl (rSlA K) te tlo thi) σ H (.tuple ((ds.drop (HT.sIx ds.length 0 lo)).take (HT.sIx ds.length ds.length hi - HT.sIx ds.length 0 lo))) := fun H1 e Q q =>
  h H1 e _ fun v H2 e2 f => h1 H2 (e.trans e2) _ fun H3 e3 => h2 H3 ((e.trans e2).trans e3) _ fun H4 e4 => by
    have f4 := dp_mono (cut_mono (e3.trans e4)) _ f
    obtain ⟨a, xs, rfl, hs, hx⟩ := dp_tup f4
    have lx := dpa_len hx
    have e14 := (e2.trans e3).trans e4
    refine ⟨a, xs, rfl, ex_t (cut_le S H4) hs, fun hw => ?_, fun _ p hp => ?_⟩
    · rw [lx] at hw
      rw [hw.1, hw.2, Nat.sub_zero, List.drop_zero, List.take_length] at q
      exact q _ H4 e14 f4
    · refine q _ _ (e14.trans (Ex.new hp)) (dp_newT (D.mono (e.trans e14)) hp ?_)
      unfold cutV
      rw [lx]
      exact dpa_take _ (dpa_drop _ hx)
theorem ed_takeA {k : Nat} (D : Dom S H) (h : EvD K S te σ H (.tuple ds)) (h2 : EvO thi σ H (some (k : Int))) (hk : k ≤ ds.length) : EvD K S (tSl (rSlA K) te tNoPart thi) σ H (.tuple (ds.take k)) := by
  have := ed_slA (K := K) D h eo_none h2
  rw [HT.sIx_none, HT.sIx_nat, Nat.sub_zero, List.drop_zero, Nat.min_eq_left hk] at this
  exact this
theorem ed_dropA {k : Nat} (D : Dom S H) (h : EvD K S te σ H (.tuple ds)) (h1 : EvO tlo σ H (some (k : Int))) (hk : k ≤ ds.length) : EvD K S (tSl (rSlA K) te tlo tNoPart) σ H (.tuple (ds.drop k)) := by
  have := ed_slA (K := K) D h h1 eo_none
  rw [HT.sIx_none, HT.sIx_nat, Nat.min_eq_left hk, List.take_of_length_le (by rw [List.length_drop]; omega)] at this
  exact this
theorem edl_cat (ha : EvDL K S ta σ H ds) (hb : ∀ H1, Ex H H1 → EvDL K S tb σ H1 es) (hz : ds.length + es.length ≤ 100000) : EvDL K S (tOp rCat ta tb) σ H (ds ++ es) := fun H1 e Q q =>
  ha H1 e _ fun p vs H2 hp e2 h2 f2 => hb H2 (e.trans e2) H2 (Ex.refl H2) _ fun r ws H3 hr e3 h3 f3 => ⟨p, r, vs, ws, rfl, rfl, e3 _ _ h2, h3, by rw [dpa_len f2, dpa_len f3]; exact sz_of hz, fun t ht => by
    refine q t (vs ++ ws) _ (fresh_back (e2.trans e3) ht) ((e2.trans e3).trans (Ex.new ht)) upd_same (dpa_app ?_ ?_)
    · exact dpa_mono ((cut_sub fun b hb => List.mem_cons_of_mem _ hb).trans ((cut_mono e3).trans (cut_new_le (Ex.new ht) ht))) _ f2
    · exact dpa_mono ((cut_sub fun b hb => List.mem_cons_of_mem _ hb).trans (cut_new_le (Ex.new ht) ht)) _ f3⟩
theorem ed_ofIntsS {ns : List Int} (D : Dom S H) (h : EvL te σ H (ns.map V.int)) : EvD K S te σ H (.list (nums ns)) := fun H1 e Q q =>
  h H1 e _ fun p H2 hp e2 h2 => q _ H2 e2 (.lst (sq_of (by rw [cut_out ((D.mono e).new hp)]; exact h2)) (nums_dpa ns))
end
end Dt

set_option Elab.async false
set_option maxRecDepth 100000
set_option maxHeartbeats 4000000
set_option linter.all false
/-! the law's settings, turned settings, what hangs -/
namespace Dl
open PySem L2 Evl Dt
def allS : Nat → List (List Int)
  | 0 => [[]]
  | n + 1 => (allS n).map (· ++ [0]) ++ (allS n).map (· ++ [1])
theorem allS_len : ∀ n, (allS n).length = 2 ^ n
  | 0 => rfl
  | n + 1 => by rw [allS, List.length_append, List.length_map, List.length_map, allS_len n, Nat.pow_succ]; omega
theorem allS_mem : ∀ {n : Nat} {xs : List Int}, xs ∈ allS n → xs.length = n ∧ ∀ x ∈ xs, x = 0 ∨ x = 1
  | 0, xs, h => by
    rw [List.mem_singleton.mp h]
    exact ⟨rfl, fun _ h => nomatch h⟩
  | n + 1, xs, h => by
    rw [allS, List.mem_append] at h
    rcases h with h | h
    · obtain ⟨ys, hy, rfl⟩ := List.mem_map.mp h
      obtain ⟨a, b⟩ := allS_mem hy
      refine ⟨by simp [a], fun x hx => ?_⟩
      rcases List.mem_append.mp hx with hx | hx
      · exact b x hx
      · exact .inl (List.mem_singleton.mp hx)
    · obtain ⟨ys, hy, rfl⟩ := List.mem_map.mp h
      obtain ⟨a, b⟩ := allS_mem hy
      refine ⟨by simp [a], fun x hx => ?_⟩
      rcases List.mem_append.mp hx with hx | hx
      · exact b x hx
      · exact .inr (List.mem_singleton.mp hx)
def tupD (xs : List Int) : PyData := .tuple (nums xs)
def appD (c : Int) : PyData → PyData
  | .tuple ds => .tuple (ds ++ [.int c])
  | d => d
def turn (xs : List Int) (k : Nat) : List Int := xs.take k ++ [1 - xs.getD k 0] ++ xs.drop (k + 1)
section
variable {P : Program} {w : World} {K : PySem.W.Frag} {mg : Str → Option Value} {base : Heap} {f C pF : Addr} {fd : FuncData}
abbrev spSettings (K : PySem.W.Frag) : Sp := spD K (fun ds d => ∃ n : Nat, n ≤ 10 ∧ ds = [.int (n : Int)] ∧ d = .list ((allS n).map tupD))
abbrev s_law_settings : Stmt := topS 38
abbrev N_law_settings : List Str := ["_law_many", "_law_found", "_law_lever", "_law_setting"]
theorem sc_law_settings : FnScope N_law_settings ["_law_many"] (defScope s_law_settings) := ⟨rfl, rfl, rfl, by decide +kernel, rfl, by decide +kernel, by decide +kernel⟩

theorem ok_law_settings (F : Fun K "_law_settings" "_law_settings" s_law_settings f fd) (T : Nm mg) : FnOk P w K mg base CX0 1 f fd ["_law_many"] (spSettings K) := by
  refine F.ok sc_law_settings (fun vs H Q E h => ?_) (fun cdv A outer s H vs Q E hr h => ?_)
  · obtain ⟨S, ds, d, _, hv, ⟨n, _, rfl, rfl⟩, _⟩ := h
    exact dpa_len hv
  · obtain ⟨S, ds, d, D, hv, ⟨n, hn, rfl, rfl⟩, k⟩ := h
    obtain ⟨v, rfl, hx⟩ := dpa1 hv
    obtain rfl := dp_int hx
    have nd := sc_law_settings.nd
    refine ⟨_, (pss_cons (ps_set (i := 1) nd rfl (Or.inl rfl) (pe_lst (pa_cons (pe_tup pa_nil) pa_nil)))
  (pss_cons (ps_for PassesOwn.never rfl (pi_range1 rfl T.n_range (pa_cons (pv 0) pa_nil)) (pg_name (i := 2) nd rfl (Or.inl rfl)) (pss_one (ps_set (i := 1) nd rfl (Or.inl rfl) (pe_op op_cat (pe_lc (own := [("_law_setting", 3)]) rfl nd (pi_list (pv 1)) (blkOk_by (own := [("_law_setting", 3)]) (N := N_law_settings) (sc := defScope s_law_settings) (by decide +kernel)) (fun _ _ _ _ _ => (pg_name (i := 3) nd rfl (Or.inl rfl))) (fun _ _ _ _ _ => pts_nil) (fun _ _ _ _ _ => (pe_op (show OpR _ _ (rCatA K) from op_catA) (pv 3) (pe_tup (pa_cons pe_int pa_nil))))) (pe_lc (own := [("_law_setting", 3)]) rfl nd (pi_list (pv 1)) (blkOk_by (own := [("_law_setting", 3)]) (N := N_law_settings) (sc := defScope s_law_settings) (by decide +kernel)) (fun _ _ _ _ _ => (pg_name (i := 3) nd rfl (Or.inl rfl))) (fun _ _ _ _ _ => pts_nil) (fun _ _ _ _ _ => (pe_op (show OpR _ _ (rCatA K) from op_catA) (pv 3) (pe_tup (pa_cons pe_int pa_nil)))))))))
  (pss_one (ps_ret (pv 1))))), ?_⟩
    refine qd_asg (K := K) (S := S) (d := .list ((allS 0).map tupD)) ((edl_lst (eda_cons (ed_tup D eda_nil (show 0 ≤ 100000 by decide)) eda_nil) (show 1 ≤ 100000 by decide)).ed D) fun u H1 e1 hu => ?_
    refine q_forR1 (j := 2) (n := (n : Int)) (ea_cons (ev_var (i := 0) rfl) ea_nil) (by omega) (fun i σ' G => ∃ u x2, σ' = [some (.int (n : Int)), some u, x2, none] ∧ Ex H G ∧ Dp K (cut S G) u (.list ((allS i).map tupD))) (fun H2 e2 => ⟨u, none, rfl, e1.trans e2, dp_mono (cut_mono e2) _ hu⟩) ?_ ?_
    · rintro i σ' G hi ⟨u, x2, rfl, eG, hu⟩
      have hil : i < 10 := by omega
      have hp : 2 ^ i ≤ 2 ^ 10 := Nat.pow_le_pow_right (by decide) (by omega)
      have DG := D.mono eG
      have hl : ∀ (c : Int) (G1 : Hp), Ex G G1 → EvDL K S (tLc (iList K (tVar 1)) (gName 3) tYes (tOp (rCatA K) (tVar 3) (tTup (tCons (tC (.int c)) tNil))) [3]) [some (.int (n : Int)), some u, some (.int (i : Int)), none] G1 ((allS i).map fun xs => tupD (xs ++ [c])) := fun c G1 e2 => by
        have h1 := edl_lcD (K := K) (S := S) (σ := [some (.int (n : Int)), some u, some (.int (i : Int)), none]) (H := G1) (j := 3) (vs := [3]) (t := tYes) (te := tOp (rCatA K) (tVar 3) (tTup (tCons (tC (.int c)) tNil))) (fun _ => true) (appD c) (DG.mono e2) (ed_var (i := 1) rfl (dp_mono (cut_mono e2) _ hu))
          (by rw [List.length_map, allS_len]; exact Nat.le_trans hp (by decide)) (fun x => rfl) (fun d v S' H1 _ _ _ _ _ => et_none) (fun d v S' H1 e3 c3 D3 hm hd _ => by
            obtain ⟨xs, hxs, rfl⟩ := List.mem_map.mp hm
            refine ed_catA D3 (ed_var (i := 3) rfl hd) (ed_tup D3 (eda_cons ed_int eda_nil) (show 1 ≤ 100000 by decide)) ?_
            have := (allS_mem hxs).1
            unfold nums
            rw [List.length_map]
            show xs.length + 1 ≤ 100000
            omega)
        rw [List.filter_eq_self.mpr fun _ _ => rfl, List.map_map] at h1
        have e4 : (allS i).map (appD c ∘ tupD) = (allS i).map fun xs => tupD (xs ++ [c]) := List.map_congr_left fun xs _ => by
          show PyData.tuple (nums xs ++ [.int c]) = .tuple (nums (xs ++ [c]))
          unfold nums
          rw [List.map_append]
          rfl
        rw [e4] at h1
        exact h1
      show tAsg _ _ _ [some (.int (n : Int)), some u, some (.int (i : Int)), none] G
      refine sd_asg (K := K) (S := S) (d := .list ((allS (i + 1)).map tupD)) ((EvDL.ed DG (by
        have := edl_cat (K := K) (hl 0 G (Ex.refl G)) (fun G1 e2 => hl 1 G1 e2) (by rw [List.length_map, List.length_map, allS_len]; exact Nat.le_trans (Nat.add_le_add hp hp) (by decide))
        rw [allS, List.map_append, List.map_map, List.map_map]
        exact this))) fun u2 G2 e2 hu2 => ⟨u2, _, rfl, eG.trans e2, hu2⟩
    · rintro σ' G ⟨u, x2, rfl, eG, hu⟩
      rw [Int.toNat_natCast] at hu
      exact sd_ret (K := K) (S := S) (ed_var (i := 1) rfl hu) fun u2 G2 e2 hu2 => k _ G2 (eG.trans e2) hu2
abbrev spTurned (K : PySem.W.Frag) : Sp := spD K (fun ds d => ∃ (xs : List Int) (i : Nat), i < xs.length ∧ xs.length ≤ 1000 ∧ ds = [tupD xs, .int (i : Int)] ∧ d = tupD (turn xs i))
abbrev s_law_turned : Stmt := topS 39
abbrev N_law_turned : List Str := ["_law_setting", "_law_lever"]
theorem sc_law_turned : FnScope N_law_turned ["_law_setting", "_law_lever"] (defScope s_law_turned) := ⟨rfl, rfl, rfl, by decide +kernel, rfl, by decide +kernel, by decide +kernel⟩

theorem ok_law_turned (F : Fun K "_law_turned" "_law_turned" s_law_turned f fd) : FnOk P w K mg base CX0 1 f fd ["_law_setting", "_law_lever"] (spTurned K) := by
  refine F.ok sc_law_turned (fun vs H Q E h => ?_) (fun cdv A outer s H vs Q E hr h => ?_)
  · obtain ⟨S, ds, d, _, hv, ⟨xs, i, _, _, rfl, rfl⟩, _⟩ := h
    exact dpa_len hv
  · obtain ⟨S, ds, d, D, hv, ⟨xs, i, hi, hz, rfl, rfl⟩, k⟩ := h
    obtain ⟨v, u, rfl, hx, hu⟩ := dpa2 hv
    have nd := sc_law_turned.nd
    have v0 : EvD K S (tVar 0) (start N_law_turned [v, u]) H (.tuple (nums xs)) := ed_var (i := 0) rfl hx
    have v1 : EvD K S (tVar 1) (start N_law_turned [v, u]) H (.int (i : Int)) := ed_var (i := 1) rfl hu
    have ln : (nums xs).length = xs.length := by unfold nums; rw [List.length_map]
    refine ⟨_, (pss_one (ps_ret (pe_op op_catA (pe_op op_catA (pe_slice sl_tupA (pv 0) po_none (po_some (pv 1))) (pe_tup (pa_cons (pe_op op_sub pe_int (pe_ix ix_tup (pv 0) (pv 1) (fun _ _ => rfl))) pa_nil))) (pe_slice sl_tupA (pv 0) (po_some (pe_op op_add (pv 1) pe_int)) po_none)))), ?_⟩
    have hit : atI (nums xs) ((i : Nat) : Int) = some (.int (xs.getD i 0)) := atI_nat (by unfold nums; rw [List.getElem?_map, List.getD_eq_getElem?_getD, List.getElem?_eq_getElem hi]; rfl)
    have one : EvD K S (tTup (tCons (tOp (rI0 fun i j => .int (i - j)) (tC (.int 1)) (tOp (rIxT K) (tVar 0) (tVar 1))) tNil)) (start N_law_turned [v, u]) H (.tuple [.int (1 - xs.getD i 0)]) :=
      ed_tup D (eda_cons (ed_I (ev_op ev_c (EvD.int (K := K) (S := S) (ed_ixT v0 v1 hit)) rv_I0)) eda_nil) (show 1 ≤ 100000 by decide)
    have plus1 : Ev (tOp (rI0 fun i j => .int (i + j)) (tVar 1) (tC (.int 1))) (start N_law_turned [v, u]) H (.int ((i + 1 : Nat) : Int)) := ev_is (ev_op v1.int ev_c rv_I0) (by show V.int ((i : Int) + 1) = _; congr 1)
    have all := ed_catA (K := K) D (ed_catA (K := K) D (ed_takeA (K := K) D v0 (eo_some v1.int) (by omega)) one (by rw [List.length_take, ln]; show _ + 1 ≤ _; omega))
      (ed_dropA (K := K) (k := i + 1) D v0 (eo_some plus1) (by omega)) (by rw [List.length_append, List.length_take, List.length_drop, ln]; show _ + 1 + _ ≤ _; omega)
    refine sd_ret (K := K) (S := S) (d := tupD (turn xs i)) (ed_is all ?_) fun y H1 e1 hy => k _ H1 e1 hy
    unfold tupD turn nums
    rw [List.map_append, List.map_append, List.map_take, List.map_drop]
    rfl
end
end Dl

set_option Elab.async false
set_option maxRecDepth 100000
set_option maxHeartbeats 4000000
set_option linter.all false
/-! what hangs, by trying -/
namespace Dl
open PySem L2 Evl Dt
def flipA (a : Nat → Bool) (k : Nat) : Nat → Bool := fun z => if z = k then !a z else a z
theorem turn_set {xs : List Int} {k : Nat} (h : k < xs.length) : turn xs k = xs.set k (1 - xs.getD k 0) := by
  rw [List.set_eq_take_append_cons_drop, if_pos h]
  unfold turn
  rw [List.append_assoc]
  rfl
theorem turn_tells {xs : List Int} {a : Nat → Bool} {k : Nat} {L : List Nat} (h : k < xs.length) (hk : xs[k]? = some (b2i (a k))) (t : Tells xs a L) : Tells (turn xs k) (flipA a k) L := fun z hz => by
  rw [turn_set h, List.getElem?_set]
  by_cases e : k = z
  · subst e
    have e1 : flipA a k k = !a k := if_pos rfl
    rw [if_pos rfl, if_pos h, List.getD_eq_getElem?_getD, hk, e1]
    cases a k <;> rfl
  · have e1 : flipA a k z = a z := if_neg fun x => e x.symm
    rw [if_neg e, e1]
    exact t z hz
/-- the levers that hang -/
def hungL (t : T) (a : Nat → Bool) (n : Nat) : List Nat := (List.range n).filter fun k => !decide (V.int (b2i (t.lit (flipA a k))) = V.int (b2i (t.lit a)))
section
variable {P : Program} {w : World} {K : PySem.W.Frag} {mg : Str → Option Value} {base : Heap} {f C pF : Addr} {fd : FuncData}
def spHungL (K : PySem.W.Frag) (n : Nat) : Sp := fun vs H Q _ => ∃ (S : List Addr) (v u : V) (t : T) (xs : List Int) (a : Nat → Bool), vs = [v, u] ∧ Dom S H ∧ Dp K (cut S H) v t.d ∧ Dp K (cut S H) u (tupD xs) ∧ t.form = true ∧ t.height ≤ n ∧ xs.length ≤ 1000 ∧ Tells xs a (List.range xs.length) ∧ (∀ z ∈ t.levs, z < xs.length) ∧
  ∀ y H', Ex H H' → Dp K (cut S H') y (tupD ((hungL t a xs.length).map fun (k : Nat) => (k : Int))) → Q y H'
abbrev s_law_hung : Stmt := topS 40
abbrev N_law_hung : List Str := ["_law_tree", "_law_setting", "_law_lamp_here", "_law_lever"]
theorem sc_law_hung : FnScope N_law_hung ["_law_tree", "_law_setting"] (defScope s_law_hung) := ⟨rfl, rfl, rfl, by decide +kernel, rfl, by decide +kernel, by decide +kernel⟩

theorem ok_law_hung {n : Nat} (F : Fun K "_law_hung" "_law_hung" s_law_hung f fd) (T : Nm mg) (h_law_lamp : Has P w K mg base (n + 1) "_law_lamp" ["_law_tree", "_law_setting"] (spLamp K n)) (h_law_turned : Has P w K mg base 1 "_law_turned" ["_law_setting", "_law_lever"] (spTurned K)) :
    FnOk P w K mg base CX0 (n + 2) f fd ["_law_tree", "_law_setting"] (spHungL K n) := by
  refine F.ok sc_law_hung (fun vs H Q E h => ?_) (fun cdv A' outer s H vs Q E hr h => ?_)
  · obtain ⟨S, v, u, t, xs, a, rfl, _⟩ := h
    rfl
  · obtain ⟨S, v, u, t, xs, a, rfl, D, hv, hu, hf, hh, hz, ht, hl, k⟩ := h
    have nd := sc_law_hung.nd
    refine ⟨_, (pss_cons (ps_set (i := 2) nd rfl (Or.inr rfl) (pe_has h_law_lamp (hr.mono (by first | decide | omega)) (pa_cons (pv 0) (pa_cons (pv 1) pa_nil))))
  (pss_one (ps_ret (pe_callTy call_tuple_of (by rfl) T.n_tuple (by decide +kernel) (pa_cons (pe_lc (own := [("_law_lever", 3)]) rfl nd (pi_range1 rfl T.n_range (pa_cons (pe_callB call_len_seq (by rfl) T.n_len (by decide +kernel) (pa_cons (pv 1) pa_nil)) pa_nil)) (blkOk_by (own := [("_law_lever", 3)]) (N := N_law_hung) (sc := defScope s_law_hung) (by decide +kernel)) (fun _ _ _ _ _ => (pg_name (i := 3) nd rfl (Or.inl rfl))) (fun _ _ _ _ _ => (pts_one (pt_cmpR op_ne (pe_has h_law_lamp (hr.mono (by first | decide | omega)) (pa_cons (pv 0) (pa_cons (pe_has h_law_turned (hr.mono (by first | decide | omega)) (pa_cons (pv 1) (pa_cons (pv 3) pa_nil))) pa_nil))) (pv 2) (nomark _)))) (fun _ _ _ _ _ => (pv 3))) pa_nil))))), ?_⟩
    have htl : Tells xs a t.levs := fun z m => ht z (List.mem_range.mpr (hl z m))
    refine q_asg (ev_lamp D (ed_var (i := 0) rfl hv) (ed_var (i := 1) rfl hu) hf hh htl) fun H1 e1 => ?_
    have D1 := D.mono e1
    have hv1 := dp_mono (cut_mono e1) _ hv
    have hu1 := dp_mono (cut_mono e1) _ hu
    let σ0 : L2.St := [some v, some u, some (.int (b2i (t.lit a))), none]
    have hlen : Ev (tCB (rLenS K) (tCons (tVar 1) tNil)) σ0 H1 (.int (xs.length : Int)) := by
      have := ev_lenD (K := K) (S := S) (ed_var (σ := σ0) (i := 1) rfl hu1) rfl
      have e2 : (seqD (tupD xs)).length = xs.length := by show (nums xs).length = _; unfold nums; rw [List.length_map]
      rwa [e2] at this
    have hlc := el_lcR1 (σ := σ0) (H := H1) (j := 3) (vs := [3]) (n := (xs.length : Int)) (t := tTest (tOp rNe (tCall (spLamp K n) [] E0 (tCons (tVar 0) (tCons (tCall (spTurned K) [] E0 (tCons (tVar 1) (tCons (tVar 3) tNil))) tNil))) (tVar 2))) (te := tVar 3)
      (fun k => !decide (V.int (b2i (t.lit (flipA a k))) = V.int (b2i (t.lit a)))) (fun k => .int (k : Int)) (ea_cons hlen ea_nil) (by omega) (fun x => rfl) (fun i H2 e2 hi => by
        have hil : i < xs.length := by omega
        have D2 := D1.mono e2
        have htu : EvD K S (tCall (spTurned K) [] E0 (tCons (tVar 1) (tCons (tVar 3) tNil))) ((wipe σ0 [3]).set 3 (some (.int (i : Int)))) H2 (tupD (turn xs i)) :=
          ed_call (R := fun ds d => ∃ (xs : List Int) (i : Nat), i < xs.length ∧ xs.length ≤ 1000 ∧ ds = [tupD xs, .int (i : Int)] ∧ d = tupD (turn xs i)) D2 (eda_cons (ed_var (i := 1) rfl (dp_mono (cut_mono e2) _ hu1)) (eda_cons (ed_I (ev_var (i := 3) rfl)) eda_nil)) ⟨xs, i, hil, hz, rfl, rfl⟩
        exact et_test (ev_op (ev_lamp D2 (ed_var (i := 0) rfl (dp_mono (cut_mono e2) _ hv1)) htu hf hh (turn_tells hil (ht i (List.mem_range.mpr hil)) htl)) (ev_var (i := 2) rfl) (rv_ne rfl)))
      (fun i H2 e2 hi _ => ev_var (i := 3) rfl)
    have eg : given (xs.length : Int).toNat (fun k => !decide (V.int (b2i (t.lit (flipA a k))) = V.int (b2i (t.lit a)))) (fun k => .int (k : Int)) = ((hungL t a xs.length).map fun (k : Nat) => (k : Int)).map V.int := by
      unfold given hungL
      rw [Int.toNat_natCast, List.map_map]
      rfl
    rw [eg] at hlc
    exact sd_ret (K := K) (S := S) (ed_tupOf D1 (ed_ofIntsS D1 hlc) fun p ys H1 Q hs hk => ⟨p, ys, rfl, .inl ⟨hs, hk⟩⟩) fun y H2 e2 hy => k y H2 (e1.trans e2) hy
end
end Dl

set_option Elab.async false
set_option maxRecDepth 100000
set_option maxHeartbeats 2000000
set_option linter.all false
namespace Dt
open PySem L2 Evl
section
variable {K : PySem.W.Frag} {S : List Addr} {σ : L2.St} {H H' : Hp} {ta tb te tl : TE} {ds es : List PyData} {D : Ends} {tz tu tw : TS}
/-- for x in tuple, of data; B: the heap as the loop began -/
theorem s_forTD {j : Nat} (h : EvD K S tl σ H (.tuple ds)) (Pv : Hp → Nat → L2.St → Hp → Prop) (h0 : ∀ H1, Ex H H1 → Pv H1 0 σ H1) (hk : ∀ B i σ' H', Pv B i σ' H' → Ex (cut S B) (cut S H'))
    (hs : ∀ B i d x σ' H', Ex H B → ds[i]? = some d → Dp K (cut S H') x d → Pv B i σ' H' → tu { D with nx := Pv B (i + 1), ct := Pv B (i + 1), bk := D.nx } (σ'.set j (some x)) H') (hd : ∀ B σ' H', Ex H B → Pv B ds.length σ' H' → D.nx σ' H') :
    tFor (iTup K tl) (gName j) tu D σ H :=
  h H (Ex.refl H) _ fun v H1 e f => by
    obtain ⟨a, xs, rfl, hs1, hx⟩ := dp_tup f
    have hl := dpa_len hx
    refine ⟨a, rfl, ⟨xs, ex_t (cut_le S H1) hs1⟩, for_tup (xs := xs) (Pv H1) (h0 H1 e) (fun i σ' H' _ p => ex_t ((hk H1 i σ' H' p).trans (cut_le S H')) hs1) (fun i x σ' H' hi p => ?_) (fun σ' H' p => hd H1 σ' H' e (hl ▸ p))⟩
    obtain ⟨d, hdi, hxd⟩ := dpa_got hx hi
    exact hs H1 i d x σ' H' e hdi (dp_mono (hk H1 i σ' H' p) _ hxd) p
theorem q_forTD {j : Nat} (h : EvD K S tl σ H (.tuple ds)) (Pv : Hp → Nat → L2.St → Hp → Prop) (h0 : ∀ H1, Ex H H1 → Pv H1 0 σ H1) (hk : ∀ B i σ' H', Pv B i σ' H' → Ex (cut S B) (cut S H'))
    (hs : ∀ B i d x σ' H', Ex H B → ds[i]? = some d → Dp K (cut S H') x d → Pv B i σ' H' → tu { D with nx := Pv B (i + 1), ct := Pv B (i + 1), bk := tz D } (σ'.set j (some x)) H') (hd : ∀ B σ' H', Ex H B → Pv B ds.length σ' H' → tz D σ' H') :
    tSeq (tFor (iTup K tl) (gName j) tu) tz D σ H := s_forTD (D := { D with nx := tz D }) h Pv h0 hk hs hd
/-- for x in list, of data -/
theorem s_forLD {j : Nat} (h : EvD K S tl σ H (.list ds)) (Pv : Hp → Nat → L2.St → Hp → Prop) (h0 : ∀ H1, Ex H H1 → Pv H1 0 σ H1) (hk : ∀ B i σ' H', Pv B i σ' H' → Ex (cut S B) (cut S H'))
    (hs : ∀ B i d x σ' H', Ex H B → ds[i]? = some d → Dp K (cut S H') x d → Pv B i σ' H' → tu { D with nx := Pv B (i + 1), ct := Pv B (i + 1), bk := D.nx } (σ'.set j (some x)) H') (hd : ∀ B σ' H', Ex H B → Pv B ds.length σ' H' → D.nx σ' H') :
    tFor (iList K tl) (gName j) tu D σ H :=
  h H (Ex.refl H) _ fun v H1 e f => by
    obtain ⟨a, xs, rfl, hs1, hx⟩ := dp_lst f
    have hl := dpa_len hx
    refine ⟨a, rfl, ⟨xs, ex_l (cut_le S H1) hs1⟩, for_list (xs := xs) (Pv H1) (h0 H1 e) (fun i σ' H' _ p => ex_l ((hk H1 i σ' H' p).trans (cut_le S H')) hs1) (fun i x σ' H' hi p => ?_) (fun σ' H' p => hd H1 σ' H' e (hl ▸ p))⟩
    obtain ⟨d, hdi, hxd⟩ := dpa_got hx hi
    exact hs H1 i d x σ' H' e hdi (dp_mono (hk H1 i σ' H' p) _ hxd) p
theorem q_forLD {j : Nat} (h : EvD K S tl σ H (.list ds)) (Pv : Hp → Nat → L2.St → Hp → Prop) (h0 : ∀ H1, Ex H H1 → Pv H1 0 σ H1) (hk : ∀ B i σ' H', Pv B i σ' H' → Ex (cut S B) (cut S H'))
    (hs : ∀ B i d x σ' H', Ex H B → ds[i]? = some d → Dp K (cut S H') x d → Pv B i σ' H' → tu { D with nx := Pv B (i + 1), ct := Pv B (i + 1), bk := tz D } (σ'.set j (some x)) H') (hd : ∀ B σ' H', Ex H B → Pv B ds.length σ' H' → tz D σ' H') :
    tSeq (tFor (iList K tl) (gName j) tu) tz D σ H := s_forLD (D := { D with nx := tz D }) h Pv h0 hk hs hd
end
end Dt

set_option Elab.async false
set_option maxRecDepth 100000
set_option maxHeartbeats 4000000
set_option linter.all false
/-! the law's halves -/
namespace Dl
open PySem L2 Evl Dt
section
variable {K : PySem.W.Frag} {S : List Addr} {σ : L2.St} {H : Hp} {te : TE} {D : Ends} {tz : TS}
/-- x, y = a new tuple -/
theorem q_pairU {n i j : Nat} {x y : V} (hn : n = 2) (h : EvU te σ H [x, y]) (k : ∀ H1, Ex H H1 → tz D ((σ.set i (some x)).set j (some y)) H1) : tSeq (tAsg te (gTup K n (gCons (gName i) (gCons (gName j) gNil)))) tz D σ H :=
  h H (Ex.refl H) _ fun p H1 _ e h1 => ⟨p, [x, y], rfl, st_of h1, hn.symm, x, [y], rfl, y, [], rfl, rfl, k H1 e⟩
/-- x, y = a pair of ints -/
theorem q_pairI {n i j : Nat} {p : Int × Int} (hn : n = 2) (h : EvD K S te σ H (pairD p)) (k : ∀ H1, Ex H H1 → tz D ((σ.set i (some (.int p.1))).set j (some (.int p.2))) H1) : tSeq (tAsg te (gTup K n (gCons (gName i) (gCons (gName j) gNil)))) tz D σ H :=
  h H (Ex.refl H) _ fun v H1 e hd => by
    obtain ⟨q, rfl, hq⟩ := dp_pair hd
    exact ⟨q, _, rfl, ex_t (cut_le S H1) hq, hn.symm, _, [_], rfl, _, [], rfl, rfl, k H1 e⟩
end
section
variable {P : Program} {w : World} {K : PySem.W.Frag} {mg : Str → Option Value} {base : Heap} {f C pF : Addr} {fd : FuncData}
def spHalves (K : PySem.W.Frag) (n : Nat) : Sp := fun vs H Q _ => ∃ (S : List Addr) (v : V) (t : T), vs = [v] ∧ Dom S H ∧ Dp K (cut S H) v t.d ∧ Sml t ∧ t.height ≤ n ∧ ∀ y H', Ex H H' → Dp K (cut S H') y (pairD (cnt t)) → Q y H'
theorem ed_halves {S : List Addr} {σ : L2.St} {H : Hp} {ta : TE} {t : T} {n : Nat} {E : XK} (D : Dom S H) (h1 : EvD K S ta σ H t.d) (hf : Sml t) (hn : t.height ≤ n) : EvD K S (tCall (spHalves K n) [] E (tCons ta tNil)) σ H (pairD (cnt t)) := fun H1 e Q q =>
  h1 H1 e _ fun v H2 e2 f2 => ⟨S, v, t, rfl, D.mono (e.trans e2), f2, hf, hn, fun y H3 e3 hy => q y H3 (e2.trans e3) hy⟩
abbrev s_law_halves : Stmt := topS 44
abbrev N_law_halves : List Str := ["_law_tree", "_law_every", "_law_same", "_law_part_here", "_law_dark", "_law_burning"]
theorem sc_law_halves : FnScope N_law_halves ["_law_tree"] (defScope s_law_halves) := ⟨rfl, rfl, rfl, by decide +kernel, rfl, by decide +kernel, by decide +kernel⟩

theorem ok_law_halves (F : Fun K "_law_halves" "_law_halves" s_law_halves f fd) (T : Nm mg) (hm : mg "_law_halves" = some (.ref f)) (kp : PySem.W.keepIn K (.ref f) = true) (bd : Binds K fd ["_law_tree"] []) :
    ∀ n : Nat, FnOk P w K mg base CX0 (n + 1) f fd ["_law_tree"] (spHalves K n) := by
  intro n
  induction n with
  | zero =>
    refine F.ok sc_law_halves (fun vs H Q E h => ?_) (fun cdv A' outer s H vs Q E hr h => ?_)
    · obtain ⟨S, v, t, rfl, _⟩ := h
      rfl
    · obtain ⟨S, v, t, rfl, _, _, _, h0, _⟩ := h
      exact absurd (height_pos t) (by omega)
  | succ n ih =>
    have h_law_halves : Has P w K mg base (n + 1) "_law_halves" ["_law_tree"] (spHalves K n) := ⟨f, fd, ih, hm, kp, bd⟩
    refine F.ok sc_law_halves (fun vs H Q E h => ?_) (fun cdv A' outer s H vs Q E hr h => ?_)
    · obtain ⟨S, v, t, rfl, _⟩ := h
      rfl
    · obtain ⟨S, v, t, rfl, D, hv, hs, hh, k⟩ := h
      have nd := sc_law_halves.nd
      refine ⟨_, (pss_cons (ps_if (pt_val (pe_callB call_isi (by rfl) T.n_isinstance (by decide +kernel) (pa_cons (pv 0) (pa_cons (pe_bltn (v := .ty "int") (u := .type "int") (by rfl) T.n_int (by decide +kernel) rfl) pa_nil)))) (pss_one (ps_ret (pe_tup (pa_cons pe_int (pa_cons pe_int pa_nil))))) pss_nil)
  (pss_cons (ps_asg (pe_tup (pa_cons pe_int (pa_cons pe_int pa_nil))) (pg_tup rfl (pgs_cons (pg_name (i := 1) nd rfl (Or.inl rfl)) (pgs_cons (pg_name (i := 2) nd rfl (Or.inl rfl)) pgs_nil))))
  (pss_cons (ps_for PassesOwn.never rfl (pi_tup (pe_ix ix_tup (pv 0) pe_int (fun _ _ => rfl))) (pg_name (i := 3) nd rfl (Or.inl rfl)) (pss_cons (ps_asg (pe_has h_law_halves (hr.mono (by first | decide | omega)) (pa_cons (pv 3) pa_nil)) (pg_tup rfl (pgs_cons (pg_name (i := 4) nd rfl (Or.inl rfl)) (pgs_cons (pg_name (i := 5) nd rfl (Or.inl rfl)) pgs_nil))))
  (pss_one (ps_par (i := 1) (j := 2) rfl nd rfl rfl (by decide) rfl rfl (pa_cons (pe_op op_mul (pv 1) (pe_op op_add (pv 4) (pv 5))) (pa_cons (pe_op op_mul (pv 2) (pe_ifExp (pt_cmpR op_eq (pe_ix ix_tup (pv 0) pe_int (fun _ _ => rfl)) pe_str (nomark _)) (pv 5) (pv 4))) pa_nil)) (by rfl)))))
  (pss_one (ps_ret (pe_ifExp (pt_cmpR op_eq (pe_ix ix_tup (pv 0) pe_int (fun _ _ => rfl)) pe_str (nomark _)) (pe_tup (pa_cons (pe_op op_sub (pv 1) (pv 2)) (pa_cons (pv 2) pa_nil))) (pe_tup (pa_cons (pv 2) (pa_cons (pe_op op_sub (pv 1) (pv 2)) pa_nil))))))))), ?_⟩
      have v0 : EvD K S (tVar 0) (start N_law_halves [v]) H t.d := ed_var (i := 0) rfl hv
      cases t with
      | lev z =>
        rw [Dl.T.d] at v0
        refine q_when (b := true) (et_B (ev_isi v0 (kit_int _ rfl))) (fun _ H1 e1 => ?_) (fun z => nomatch z)
        rw [cnt_lev] at k
        exact sd_ret (K := K) (S := S) (ed_tup (D.mono e1) (eda_cons ed_int (eda_cons ed_int eda_nil)) (show 2 ≤ 100000 by decide)) fun y H2 e2 hy => k y H2 (e1.trans e2) hy
      | knot w ps =>
        rw [Dl.T.height] at hh
        rw [Dl.T.d, Dl.T.ds_map] at v0 hv
        have hpt := hs.part
        have hck := cnt_knot hs.form
        have hbd : ∀ t ∈ ps, 1 ≤ (cnt t).1 ∧ 1 ≤ (cnt t).2 ∧ (cnt t).1 + (cnt t).2 ≤ 1073741824 := fun t ht => cnt_bound (hpt t ht).form (hpt t ht).few
        refine q_when (b := false) (et_B (ev_isi v0 (kit_int _ rfl))) (fun z => nomatch z) (fun _ H1 e1 => ?_)
        refine q_pairU rfl (eu_tup (σ := start N_law_halves [v]) (ea_cons (ev_c (v := .int 1)) (ea_cons (ev_c (v := .int 1)) ea_nil)) (show 2 ≤ 100000 by decide)) fun H1' e1' => ?_
        have e1 := e1.trans e1'
        have i1 : EvD K S (tOp (rIxT K) (tVar 0) (tC (.int 1))) [some v, some (.int 1), some (.int 1), none, none, none] H1' (.tuple (ps.map Dl.T.d)) := ed_ixT (ed_var (i := 0) rfl (dp_mono (cut_mono e1) _ hv)) ed_int rfl
        have word : ∀ (x1 x2 x3 x4 x5 : Option V) (G : Hp), Ex H G → EvT (tTest (tOp rEq (tOp (rIxT K) (tVar 0) (tC (.int 0))) (tC (.str "all")))) [some v, x1, x2, x3, x4, x5] G w := fun x1 x2 x3 x4 x5 G eG => by
          have w0 : EvD K S (tOp (rIxT K) (tVar 0) (tC (.int 0))) [some v, x1, x2, x3, x4, x5] G (.str (wd w)) := ed_ixT (ed_var (i := 0) rfl (dp_mono (cut_mono eG) _ hv)) ed_int rfl
          refine et_is (et_test (ev_op w0.str ev_c (rv_eq rfl))) ?_
          cases w
          · exact decide_eq_false fun z => absurd (V.str.inj z) (by decide +kernel)
          · exact decide_eq_true rfl
        refine q_forTD (K := K) (S := S) (j := 3) (ds := ps.map Dl.T.d) i1 (fun B i σ' G => ∃ x3 x4 x5, σ' = [some v, some (.int (prodI ((ps.take i).map fun t => (cnt t).1 + (cnt t).2))), some (.int (prodI ((ps.take i).map (kept w)))), x3, x4, x5] ∧ Ex B G)
          (fun H2 e2 => ⟨none, none, none, rfl, Ex.refl H2⟩) (fun B i σ' G ⟨_, _, _, _, e⟩ => cut_mono e) ?_ ?_
        · rintro B i d x σ' G eB hdi hxd ⟨x3, x4, x5, rfl, eG⟩
          rw [List.getElem?_map] at hdi
          obtain ⟨t, ht, rfl⟩ := Option.map_eq_some_iff.mp hdi
          have hm' := List.mem_of_getElem? ht
          have eHG := e1.trans (eB.trans eG)
          have DG := D.mono eHG
          let σ1 : L2.St := [some v, some (.int (prodI ((ps.take i).map fun t => (cnt t).1 + (cnt t).2))), some (.int (prodI ((ps.take i).map (kept w)))), some x, x4, x5]
          have hc := ed_halves (K := K) (S := S) (σ := σ1) (H := G) (ta := tVar 3) (t := t) (n := n) (E := E0) DG (ed_var (i := 3) rfl hxd) (hpt t hm') (by have := height_mem hm'; omega)
          refine q_pairI (K := K) (S := S) rfl hc fun G2 e2 => ?_
          have hb := hbd t hm'
          have hkp := kept_pos (w := w) (hpt t hm')
          let σ2 : L2.St := [some v, some (.int (prodI ((ps.take i).map fun t => (cnt t).1 + (cnt t).2))), some (.int (prodI ((ps.take i).map (kept w)))), some x, some (.int (cnt t).1), some (.int (cnt t).2)]
          have hif : Ev (tIf (tTest (tOp rEq (tOp (rIxT K) (tVar 0) (tC (.int 0))) (tC (.str "all")))) (tVar 5) (tVar 4)) σ2 G2 (.int (kept w t)) :=
            ev_if (b := w) (word _ _ _ _ _ G2 (eHG.trans e2)) (fun hw => by rw [show kept w t = (cnt t).2 by unfold kept; rw [hw]; rfl]; exact ev_var (i := 5) rfl) (fun hw => by rw [show kept w t = (cnt t).1 by unfold kept; rw [hw]; rfl]; exact ev_var (i := 4) rfl)
          have hA : EvA (tCons (tOp (rI CMul fun i j => .int (i * j)) (tVar 1) (tOp (rI0 fun i j => .int (i + j)) (tVar 4) (tVar 5))) (tCons (tOp (rI CMul fun i j => .int (i * j)) (tVar 2) (tIf (tTest (tOp rEq (tOp (rIxT K) (tVar 0) (tC (.int 0))) (tC (.str "all")))) (tVar 5) (tVar 4))) tNil)) σ2 G2
              [.int (prodI ((ps.take i).map fun t => (cnt t).1 + (cnt t).2) * ((cnt t).1 + (cnt t).2)), .int (prodI ((ps.take i).map (kept w)) * kept w t)] :=
            ea_cons (ev_op (ev_var (i := 1) rfl) (ev_op (ev_var (i := 4) rfl) (ev_var (i := 5) rfl) rv_I0) (rv_I (.inr ⟨by omega, by omega⟩))) (ea_cons (ev_op (ev_var (i := 2) rfl) hif (rv_I (.inr ⟨by omega, by omega⟩))) ea_nil)
          refine hA G2 (Ex.refl G2) _ fun G3 e3 => ⟨_, _, rfl, some x, some (.int (cnt t).1), some (.int (cnt t).2), ?_, eG.trans (e2.trans e3)⟩
          rw [List.take_succ, ht, Option.toList_some, List.map_append, List.map_append, List.map_singleton, List.map_singleton, prodI_snoc, prodI_snoc]
          rfl
        · rintro B σ' G eB ⟨x3, x4, x5, rfl, eG⟩
          rw [List.length_map, List.take_length]
          have eHG := e1.trans (eB.trans eG)
          have DG := D.mono eHG
          let wh := prodI (ps.map fun t => (cnt t).1 + (cnt t).2)
          let sm := prodI (ps.map (kept w))
          have hs1 : Ev (tVar 1) [some v, some (.int wh), some (.int sm), x3, x4, x5] G (.int wh) := ev_var (i := 1) rfl
          have hs2 : Ev (tVar 2) [some v, some (.int wh), some (.int sm), x3, x4, x5] G (.int sm) := ev_var (i := 2) rfl
          refine sd_ret (K := K) (S := S) (d := pairD (cnt (.knot w ps))) (ed_if (b := w) (word _ _ _ _ _ G eHG) (fun hw => ?_) (fun hw => ?_)) fun y G2 e2 hy => k y G2 (eHG.trans e2) hy
          · refine ed_is (ed_tup DG (eda_cons (ed_I (ev_op hs1 hs2 rv_I0)) (eda_cons (ed_I hs2) eda_nil)) (show 2 ≤ 100000 by decide)) ?_
            rw [hck]
            subst hw
            rfl
          · refine ed_is (ed_tup DG (eda_cons (ed_I hs2) (eda_cons (ed_I (ev_op hs1 hs2 rv_I0)) eda_nil)) (show 2 ≤ 100000 by decide)) ?_
            rw [hck]
            subst hw
            show PyData.tuple [.int sm, .int (wh - sm)] = .tuple [.int (wh - (wh - sm)), .int (wh - sm)]
            rw [show wh - (wh - sm) = sm by omega]
end
end Dl

set_option Elab.async false
set_option maxRecDepth 100000
set_option maxHeartbeats 4000000
set_option linter.all false
/-! the law's lists, by trying all settings -/
namespace Dl
open PySem L2 Evl Dt
def asg (xs : List Int) : Nat → Bool := fun z => decide (xs.getD z 0 = 1)
def lstep (t : T) (n : Nat) (c : List Int × List Int × List Int) (xs : List Int) : List Int × List Int × List Int :=
  let h := hungL t (asg xs) n
  let b := t.lit (asg xs)
  (if b then c.1 else addAt c.1 h.length 1, if b then addAt c.2.1 h.length 1 else c.2.1, h.foldl (fun l k => addAt l k (b2i b)) c.2.2)
def listed (t : T) (n i : Nat) : List Int × List Int × List Int := ((allS n).take i).foldl (lstep t n) (List.replicate (n + 1) 0, List.replicate (n + 1) 0, List.replicate n 0)
theorem fold_len (x : Int) : ∀ (h : List Nat) (l : List Int), (h.foldl (fun l k => addAt l k x) l).length = l.length
  | [], _ => rfl
  | k :: r, l => by rw [List.foldl_cons, fold_len x r, addAt_len]
theorem listed_len (t : T) (n : Nat) : ∀ i, (listed t n i).1.length = n + 1 ∧ (listed t n i).2.1.length = n + 1 ∧ (listed t n i).2.2.length = n := by
  intro i
  unfold listed
  have key : ∀ (l : List (List Int)) (c : List Int × List Int × List Int), c.1.length = n + 1 ∧ c.2.1.length = n + 1 ∧ c.2.2.length = n → (l.foldl (lstep t n) c).1.length = n + 1 ∧ (l.foldl (lstep t n) c).2.1.length = n + 1 ∧ (l.foldl (lstep t n) c).2.2.length = n := by
    intro l
    induction l with
    | nil => intro c h; exact h
    | cons a r ih =>
      intro c h
      refine ih _ ?_
      unfold lstep
      refine ⟨?_, ?_, ?_⟩
      · show (if _ then _ else _ : List Int).length = _
        split
        · exact h.1
        · rw [addAt_len]; exact h.1
      · show (if _ then _ else _ : List Int).length = _
        split
        · rw [addAt_len]; exact h.2.1
        · exact h.2.1
      · exact (fold_len _ _ _).trans h.2.2
  exact key _ _ ⟨by simp, by simp, by simp⟩
theorem listed_succ {t : T} {n i : Nat} {xs : List Int} (h : (allS n)[i]? = some xs) : listed t n (i + 1) = lstep t n (listed t n i) xs := by
  unfold listed
  rw [List.take_succ, h, Option.toList_some, List.foldl_append]
  rfl
theorem asg_tells {n : Nat} {xs : List Int} (h : xs ∈ allS n) : Tells xs (asg xs) (List.range xs.length) := fun z hz => by
  have hl := List.mem_range.mp hz
  have hm := (allS_mem h).2 xs[z] (List.getElem_mem _)
  rw [List.getElem?_eq_getElem hl]
  unfold asg b2i
  rw [List.getD_eq_getElem?_getD, List.getElem?_eq_getElem hl, Option.getD_some]
  rcases hm with e | e
  · rw [e]; rfl
  · rw [e]; rfl
theorem hungL_len (t : T) (a : Nat → Bool) (n : Nat) : (hungL t a n).length ≤ n := by
  unfold hungL
  have := List.length_filter_le (fun k => !decide (V.int (b2i (t.lit (flipA a k))) = V.int (b2i (t.lit a)))) (List.range n)
  rwa [List.length_range] at this
theorem hungL_lt {t : T} {a : Nat → Bool} {n k : Nat} (h : k ∈ hungL t a n) : k < n := List.mem_range.mp (List.mem_filter.mp h).1
theorem addAt_set {ns : List Int} {k : Nat} (x : Int) (hk : k < ns.length) : (ns.map V.int).set k (.int (ns[k] + x)) = (addAt ns k x).map V.int := by
  refine List.ext_getElem? fun j => ?_
  unfold addAt
  rw [List.getElem?_map, List.getElem?_set, get_modify, List.length_map, List.getElem?_map]
  by_cases h : k = j
  · subst h
    rw [if_pos rfl, if_pos hk, List.getElem?_eq_getElem hk, Option.map_some, if_pos rfl]
    rfl
  · rw [if_neg h]
    cases ns[j]? with
    | none => rfl
    | some y =>
      rw [Option.map_some, Option.map_some, if_neg (fun z => h z.symm)]
      rfl
section
variable {K : PySem.W.Frag} {S : List Addr} {σ : L2.St} {H : Hp} {ta tb te : TE} {D : Ends} {tz : TS}
/-- l[k] = l[k] + x -/
theorem s_addSet {l : Addr} {ns : List Int} {k : Nat} {x : Int} (hl : H l = some (.lst (ns.map V.int))) (ho : ∀ H1, Ex H H1 → Ev ta σ H1 (.ref l)) (hi : ∀ H1, Ex H H1 → Ev tb σ H1 (.int (k : Int))) (he : ∀ H1, Ex H H1 → Ev te σ H1 (.int x)) (hk : k < ns.length)
    (kk : ∀ H1, Ex H H1 → D.nx σ (upd H1 l (.lst ((addAt ns k x).map V.int)))) : tAsg (tOp (rI0 fun i j => .int (i + j)) (tOp (rIxL K) ta tb) te) (gSub ta tb rSetL) D σ H := by
  refine s_setL (j := k) hl (ev_op (ev_ixV (ho H (Ex.refl H)) (sq_of hl) (hi H (Ex.refl H)) (atI_map (List.getElem?_eq_getElem hk))) (he H (Ex.refl H)) rv_I0) (ho H (Ex.refl H)) (hi H (Ex.refl H)) (by rw [List.length_map]; exact hk) fun H1 e1 => ?_
  rw [addAt_set x hk]
  exact kk H1 e1
theorem q_addSet {l : Addr} {ns : List Int} {k : Nat} {x : Int} (hl : H l = some (.lst (ns.map V.int))) (ho : ∀ H1, Ex H H1 → Ev ta σ H1 (.ref l)) (hi : ∀ H1, Ex H H1 → Ev tb σ H1 (.int (k : Int))) (he : ∀ H1, Ex H H1 → Ev te σ H1 (.int x)) (hk : k < ns.length)
    (kk : ∀ H1, Ex H H1 → tz D σ (upd H1 l (.lst ((addAt ns k x).map V.int)))) : tSeq (tAsg (tOp (rI0 fun i j => .int (i + j)) (tOp (rIxL K) ta tb) te) (gSub ta tb rSetL)) tz D σ H := s_addSet (D := { D with nx := tz D }) hl ho hi he hk kk
end
def listD (c : List Int × List Int × List Int) : PyData := .tuple [.list [.list (nums c.1), .list (nums c.2.1)], .list (nums c.2.2)]
section
variable {P : Program} {w : World} {K : PySem.W.Frag} {mg : Str → Option Value} {base : Heap} {f C pF : Addr} {fd : FuncData}
theorem ed_hungL {S : List Addr} {σ : L2.St} {H : Hp} {ta tb : TE} {t : T} {xs : List Int} {a : Nat → Bool} {n : Nat} {E : XK} (D : Dom S H) (h1 : EvD K S ta σ H t.d) (h2 : EvD K S tb σ H (tupD xs)) (hf : t.form = true) (hn : t.height ≤ n) (hz : xs.length ≤ 1000) (ht : Tells xs a (List.range xs.length)) (hl : ∀ z ∈ t.levs, z < xs.length) :
    EvD K S (tCall (spHungL K n) [] E (tCons ta (tCons tb tNil))) σ H (tupD ((hungL t a xs.length).map fun (k : Nat) => (k : Int))) := fun H1 e Q q =>
  h1 H1 e _ fun v H2 e2 f2 => h2 H2 (e.trans e2) _ fun u H3 e3 f3 => ⟨S, v, u, t, xs, a, rfl, D.mono (e.trans (e2.trans e3)), dp_mono (cut_mono e3) _ f2, f3, hf, hn, hz, ht, hl, fun y H4 e4 hy => q y H4 (e2.trans (e3.trans e4)) hy⟩
def spListed (K : PySem.W.Frag) (h : Nat) : Sp := fun vs H Q _ => ∃ (S : List Addr) (v : V) (t : T) (n : Nat), vs = [v, .int (n : Int)] ∧ Dom S H ∧ Dp K (cut S H) v t.d ∧ t.form = true ∧ t.height ≤ h ∧ n ≤ 10 ∧ (∀ z ∈ t.levs, z < n) ∧
  ∀ y H', Ex H H' → Dp K (cut S H') y (listD (listed t n (allS n).length)) → Q y H'
abbrev s_law_listed : Stmt := topS 41
abbrev N_law_listed : List Str := ["_law_tree", "_law_many", "_law_rows", "_law_levers", "_law_setting", "_law_lamp_here", "_law_hung_here", "_law_row", "_law_lever"]
theorem sc_law_listed : FnScope N_law_listed ["_law_tree", "_law_many"] (defScope s_law_listed) := ⟨rfl, rfl, rfl, by decide +kernel, rfl, by decide +kernel, by decide +kernel⟩

theorem ok_law_listed {h : Nat} (F : Fun K "_law_listed" "_law_listed" s_law_listed f fd) (T : Nm mg) (h_law_settings : Has P w K mg base 1 "_law_settings" ["_law_many"] (spSettings K)) (h_law_lamp : Has P w K mg base (h + 1) "_law_lamp" ["_law_tree", "_law_setting"] (spLamp K h))
    (h_law_hung : Has P w K mg base (h + 2) "_law_hung" ["_law_tree", "_law_setting"] (spHungL K h)) : FnOk P w K mg base CX0 (h + 3) f fd ["_law_tree", "_law_many"] (spListed K h) := by
  refine F.ok sc_law_listed (fun vs H Q E h => ?_) (fun cdv A' outer s H vs Q E hr h => ?_)
  · obtain ⟨S, v, t, n, rfl, _⟩ := h
    rfl
  · obtain ⟨S, v, t, n, rfl, D, hv, hf, hh, hn, hlv, k⟩ := h
    have nd := sc_law_listed.nd
    refine ⟨_, (pss_cons (ps_par (i := 2) (j := 3) rfl nd rfl rfl (by decide) rfl rfl (pa_cons (pe_lst (pa_cons (pe_op op_rep (pe_lst (pa_cons pe_int pa_nil)) (pe_op op_add (pv 1) pe_int)) (pa_cons (pe_op op_rep (pe_lst (pa_cons pe_int pa_nil)) (pe_op op_add (pv 1) pe_int)) pa_nil))) (pa_cons (pe_op op_rep (pe_lst (pa_cons pe_int pa_nil)) (pv 1)) pa_nil)) (by rfl))
  (pss_cons (ps_for PassesOwn.never rfl (pi_list (pe_has h_law_settings (hr.mono (by first | decide | omega)) (pa_cons (pv 1) pa_nil))) (pg_name (i := 4) nd rfl (Or.inl rfl)) (pss_cons (ps_par (i := 5) (j := 6) rfl nd rfl rfl (by decide) rfl rfl (pa_cons (pe_has h_law_lamp (hr.mono (by first | decide | omega)) (pa_cons (pv 0) (pa_cons (pv 4) pa_nil))) (pa_cons (pe_has h_law_hung (hr.mono (by first | decide | omega)) (pa_cons (pv 0) (pa_cons (pv 4) pa_nil))) pa_nil)) (by rfl))
  (pss_cons (ps_set (i := 7) nd rfl (Or.inl rfl) (pe_ix ix_list (pv 2) (pv 5) (fun _ _ => rfl)))
  (pss_cons (ps_asg (pe_op op_add (pe_ix ix_list (pv 7) (pe_callB call_len_seq (by rfl) T.n_len (by decide +kernel) (pa_cons (pv 6) pa_nil)) (fun _ _ => rfl)) pe_int) (pg_sub (pv 7) (pe_callB call_len_seq (by rfl) T.n_len (by decide +kernel) (pa_cons (pv 6) pa_nil)) set_list))
  (pss_one (ps_for PassesOwn.never rfl (pi_tup (pv 6)) (pg_name (i := 8) nd rfl (Or.inl rfl)) (pss_one (ps_asg (pe_op op_add (pe_ix ix_list (pv 3) (pv 8) (fun _ _ => rfl)) (pv 5)) (pg_sub (pv 3) (pv 8) set_list)))))))))
  (pss_one (ps_ret (pe_tup (pa_cons (pv 2) (pa_cons (pv 3) pa_nil))))))), ?_⟩
    let σ0 : L2.St := start N_law_listed [v, .int (n : Int)]
    have rep1 : ∀ G, EvL (tOp rRep (tLst (tCons (tC (.int 0)) tNil)) (tOp (rI0 fun i j => .int (i + j)) (tVar 1) (tC (.int 1)))) σ0 G (List.replicate (n + 1) (.int 0)) := fun G =>
      el_rep (n := n + 1) (el_lst (ea_cons ev_c ea_nil) (by show 1 ≤ 100000; decide)) (fun H1 e => ev_op (ev_var (i := 1) rfl) ev_c rv_I0) (by omega)
    have rep2 : ∀ G, EvL (tOp rRep (tLst (tCons (tC (.int 0)) tNil)) (tVar 1)) σ0 G (List.replicate n (.int 0)) := fun G =>
      el_rep (n := n) (el_lst (ea_cons ev_c ea_nil) (by show 1 ≤ 100000; decide)) (fun H1 e => ev_var (i := 1) rfl) (by omega)
    have er : ∀ m : Nat, List.replicate m (V.int 0) = (List.replicate m (0 : Int)).map V.int := fun m => by rw [List.map_replicate]
    show tSeq (tPar 2 3 _) _ _ σ0 H
    refine rep1 H H (Ex.refl H) _ fun r0 H1 n0 e1 h1 => rep1 H1 H1 (Ex.refl H1) _ fun r1 H2 n1 e2 h2 => ⟨by show 2 ≤ sizeLine; decide, fun r hr => ?_⟩
    refine rep2 _ _ (Ex.refl _) _ fun lv H4 nlv e4 h4 => ⟨.ref r, .ref lv, rfl, ?_⟩
    rw [er] at h1 h2 h4
    have e3 : Ex H2 (upd H2 r (.lst [.ref r0, .ref r1])) := Ex.new hr
    have hr4 : H4 r = some (.lst [.ref r0, .ref r1]) := e4 _ _ upd_same
    have g0 : H4 r0 = some (.lst ((listed t n 0).1.map V.int)) := e4 _ _ (e3 _ _ (e2 _ _ h1))
    have g1 : H4 r1 = some (.lst ((listed t n 0).2.1.map V.int)) := e4 _ _ (e3 _ _ h2)
    have g2 : H4 lv = some (.lst ((listed t n 0).2.2.map V.int)) := h4
    have eH4 : Ex H H4 := e1.trans (e2.trans (e3.trans e4))
    have f0 : H r0 = none := n0
    have f1 : H r1 = none := fresh_back e1 n1
    have fr : H r = none := fresh_back (e1.trans e2) hr
    have f2 : H lv = none := fresh_back (e1.trans (e2.trans e3)) nlv
    have d01 : r0 ≠ r1 := fun z => by rw [← z, h1] at n1; cases n1
    have dr0 : r ≠ r0 := fun z => by rw [z, e2 _ _ h1] at hr; cases hr
    have dr1 : r ≠ r1 := fun z => by rw [z, h2] at hr; cases hr
    have dl0 : lv ≠ r0 := fun z => by rw [z, e3 _ _ (e2 _ _ h1)] at nlv; cases nlv
    have dl1 : lv ≠ r1 := fun z => by rw [z, e3 _ _ h2] at nlv; cases nlv
    have dlr : lv ≠ r := fun z => by rw [z, upd_same] at nlv; cases nlv
    clear e1 e2 e3 e4 n0 n1 hr nlv h1 h2 h4
    have D4 : Dom (r0 :: r1 :: lv :: S) H4 := ((((D.mono eH4).cons g2).cons g1).cons g0)
    have c4 : Ex (cut S H) (cut (r0 :: r1 :: lv :: S) H4) := fun b o hb => by
      obtain ⟨h1, h2⟩ := cut_some hb
      rw [cut_out fun z => ?_]
      · exact eH4 _ _ h2
      · rcases List.mem_cons.mp z with z | z
        · rw [z, f0] at h2; cases h2
        · rcases List.mem_cons.mp z with z | z
          · rw [z, f1] at h2; cases h2
          · rcases List.mem_cons.mp z with z | z
            · rw [z, f2] at h2; cases h2
            · exact h1 z
    have hv4 := dp_mono c4 _ hv
    have hset : EvD K (r0 :: r1 :: lv :: S) (tCall (spSettings K) [] E0 (tCons (tVar 1) tNil)) [some v, some (.int (n : Int)), some (.ref r), some (.ref lv), none, none, none, none, none] H4 (.list ((allS n).map tupD)) :=
      ed_call (R := fun ds d => ∃ n : Nat, n ≤ 10 ∧ ds = [.int (n : Int)] ∧ d = .list ((allS n).map tupD)) D4 (eda_cons (ed_I (ev_var (i := 1) rfl)) eda_nil) ⟨n, hn, rfl, rfl⟩
    refine q_forLD (K := K) (S := r0 :: r1 :: lv :: S) (j := 4) hset (fun B i σ' G => ∃ x4 x5 x6 x7 x8, σ' = [some v, some (.int (n : Int)), some (.ref r), some (.ref lv), x4, x5, x6, x7, x8] ∧ Ex (cut (r0 :: r1 :: lv :: S) B) (cut (r0 :: r1 :: lv :: S) G) ∧ Ex H G ∧ G r = some (.lst [.ref r0, .ref r1]) ∧
        G r0 = some (.lst ((listed t n i).1.map V.int)) ∧ G r1 = some (.lst ((listed t n i).2.1.map V.int)) ∧ G lv = some (.lst ((listed t n i).2.2.map V.int)))
      (fun H5 e5 => ⟨none, none, none, none, none, rfl, Ex.refl _, eH4.trans e5, e5 _ _ hr4, e5 _ _ g0, e5 _ _ g1, e5 _ _ g2⟩) (fun B i σ' G ⟨_, _, _, _, _, _, e, _⟩ => e) ?_ ?_
    · rintro B i d x σ' G eB hdi hxd ⟨x4, x5, x6, x7, x8, rfl, cB, eG, gr, g0, g1, g2⟩
      rw [List.getElem?_map] at hdi
      obtain ⟨xs, hxs, rfl⟩ := Option.map_eq_some_iff.mp hdi
      have hmem := List.mem_of_getElem? hxs
      have hxl := (allS_mem hmem).1
      have tel := asg_tells hmem
      have hvG := dp_mono ((cut_mono eB).trans cB) _ hv4
      have lens := listed_len t n i
      have DomG : ∀ {G' : Hp}, Ex H G' → G' r0 ≠ none → G' r1 ≠ none → G' lv ≠ none → Dom (r0 :: r1 :: lv :: S) G' := fun e a b c x hx => by
        rcases List.mem_cons.mp hx with z | z
        · rw [z]; exact a
        · rcases List.mem_cons.mp z with z | z
          · rw [z]; exact b
          · rcases List.mem_cons.mp z with z | z
            · rw [z]; exact c
            · exact (D.mono e) x z
      have DG : Dom (r0 :: r1 :: lv :: S) G := DomG eG (by rw [g0]; exact fun z => nomatch z) (by rw [g1]; exact fun z => nomatch z) (by rw [g2]; exact fun z => nomatch z)
      let σ1 : L2.St := [some v, some (.int (n : Int)), some (.ref r), some (.ref lv), some x, x5, x6, x7, x8]
      have v0 : EvD K (r0 :: r1 :: lv :: S) (tVar 0) σ1 G t.d := ed_var (i := 0) rfl hvG
      have v4 : EvD K (r0 :: r1 :: lv :: S) (tVar 4) σ1 G (tupD xs) := ed_var (i := 4) rfl hxd
      have hlamp := ev_lamp (K := K) (E := E0) (n := h) DG v0 v4 hf hh (fun z hz => tel z (List.mem_range.mpr (by rw [hxl]; exact hlv z hz)))
      have hhung := ed_hungL (K := K) (E := E0) (n := h) DG v0 v4 hf hh (by omega) tel (fun z hz => by rw [hxl]; exact hlv z hz)
      rw [hxl] at hhung
      show tSeq (tPar 5 6 _) _ _ σ1 G
      refine hlamp G (Ex.refl G) _ fun G1 e1 => hhung G1 e1 _ fun y G2 e2 hy => ⟨_, _, rfl, ?_⟩
      have e12 := e1.trans e2
      have g0 := e12 _ _ g0
      have g1 := e12 _ _ g1
      have g2 := e12 _ _ g2
      have gr := e12 _ _ gr
      have eG := eG.trans e12
      have cB := cB.trans (cut_mono e12)
      generalize hb : t.lit (asg xs) = b at *
      let hs := hungL t (asg xs) n
      let hi : List Int := hs.map fun (k : Nat) => (k : Int)
      have hhl : hs.length ≤ n := hungL_len t (asg xs) n
      let rb : Addr := if b then r1 else r0
      let cb : List Int := if b then (listed t n i).2.1 else (listed t n i).1
      have grb : ∀ {G' : Hp}, Ex G2 G' → G' rb = some (.lst (cb.map V.int)) := fun {G'} e => by
        show G' (if b then r1 else r0) = some (.lst ((if b then (listed t n i).2.1 else (listed t n i).1).map V.int))
        cases b
        · exact e _ _ g0
        · exact e _ _ g1
      have lcb : cb.length = n + 1 := by
        show (if b then (listed t n i).2.1 else (listed t n i).1).length = _
        cases b
        · exact lens.1
        · exact lens.2.1
      refine q_asg (v := .ref rb) (ev_ixV (ev_var (i := 2) rfl) (sq_of gr) (ev_var (i := 5) rfl) (by show atI [V.ref r0, .ref r1] (b2i b) = some (.ref (if b then r1 else r0)); cases b <;> rfl)) fun G3 e3 => ?_
      let σ2 : L2.St := [some v, some (.int (n : Int)), some (.ref r), some (.ref lv), some x, some (.int (b2i b)), some y, some (.ref rb), x8]
      have hln : ∀ G', Ex G3 G' → Ev (tCB (rLenS K) (tCons (tVar 6) tNil)) σ2 G' (.int (hs.length : Int)) := fun G' e => by
        have := ev_lenD (K := K) (S := r0 :: r1 :: lv :: S) (ed_var (σ := σ2) (i := 6) (H := G') rfl (dp_mono (cut_mono (e3.trans e)) _ hy)) rfl
        have e2 : (seqD (tupD hi)).length = hs.length := by show (nums hi).length = _; unfold nums; rw [List.length_map, List.length_map]
        rwa [e2] at this
      refine q_addSet (K := K) (l := rb) (ns := cb) (k := hs.length) (x := 1) (grb e3) (fun G' e => ev_var (σ := σ2) (i := 7) rfl) hln (fun G' e => ev_c) (by omega) fun G4 e4 => ?_
      have e24 := e3.trans e4
      have mb : rb ∈ r0 :: r1 :: lv :: S := by show (if b then r1 else r0) ∈ _; cases b <;> simp
      have g0' : upd G4 rb (.lst ((addAt cb hs.length 1).map V.int)) r0 = some (.lst ((listed t n (i + 1)).1.map V.int)) := by
        rw [listed_succ hxs]
        show upd G4 (if b then r1 else r0) _ r0 = some (.lst ((if t.lit (asg xs) then (listed t n i).1 else addAt (listed t n i).1 (hungL t (asg xs) n).length 1).map V.int))
        rw [hb]
        cases b
        · exact upd_same
        · exact (upd_ne d01).trans (e24 _ _ g0)
      have g1' : upd G4 rb (.lst ((addAt cb hs.length 1).map V.int)) r1 = some (.lst ((listed t n (i + 1)).2.1.map V.int)) := by
        rw [listed_succ hxs]
        show upd G4 (if b then r1 else r0) _ r1 = some (.lst ((if t.lit (asg xs) then addAt (listed t n i).2.1 (hungL t (asg xs) n).length 1 else (listed t n i).2.1).map V.int))
        rw [hb]
        cases b
        · exact (upd_ne d01.symm).trans (e24 _ _ g1)
        · exact upd_same
      have nrb : ∀ {q : Addr}, q ≠ r0 → q ≠ r1 → q ≠ rb := fun a c z => by
        have z : _ = if b then r1 else r0 := z
        cases b
        · exact a z
        · exact c z
      have gr' := (upd_ne (o := .lst ((addAt cb hs.length 1).map V.int)) (nrb dr0 dr1)).trans (e24 _ _ gr)
      have g2' := (upd_ne (o := .lst ((addAt cb hs.length 1).map V.int)) (nrb dl0 dl1)).trans (e24 _ _ g2)
      have fb : H rb = none := by show H (if b then r1 else r0) = none; cases b; exact f0; exact f1
      have eG' : Ex H (upd G4 rb (.lst ((addAt cb hs.length 1).map V.int))) := Ex.mut (eG.trans e24) fb
      have cB' : Ex (cut (r0 :: r1 :: lv :: S) B) (cut (r0 :: r1 :: lv :: S) (upd G4 rb (.lst ((addAt cb hs.length 1).map V.int)))) := by
        rw [cut_upd mb]
        exact cB.trans (cut_mono e24)
      have hy' : Dp K (cut (r0 :: r1 :: lv :: S) (upd G4 rb (.lst ((addAt cb hs.length 1).map V.int)))) y (.tuple (nums hi)) := by
        rw [cut_upd mb]
        exact dp_mono (cut_mono e24) _ hy
      generalize upd G4 rb (.lst ((addAt cb hs.length 1).map V.int)) = G5 at g0' g1' gr' g2' eG' cB' hy' ⊢
      show tFor _ _ _ _ σ2 G5
      refine s_forTD (K := K) (S := r0 :: r1 :: lv :: S) (j := 8) (ds := nums hi) (ed_var (σ := σ2) (i := 6) rfl hy') (fun B' j σ' G => ∃ x8, σ' = [some v, some (.int (n : Int)), some (.ref r), some (.ref lv), some x, some (.int (b2i b)), some y, some (.ref rb), x8] ∧ Ex (cut (r0 :: r1 :: lv :: S) B') (cut (r0 :: r1 :: lv :: S) G) ∧ Ex (cut (r0 :: r1 :: lv :: S) G5) (cut (r0 :: r1 :: lv :: S) G) ∧ Ex H G ∧ G r = some (.lst [.ref r0, .ref r1]) ∧
          G r0 = some (.lst ((listed t n (i + 1)).1.map V.int)) ∧ G r1 = some (.lst ((listed t n (i + 1)).2.1.map V.int)) ∧ G lv = some (.lst (((hs.take j).foldl (fun l k => addAt l k (b2i b)) (listed t n i).2.2).map V.int)))
        (fun G6 e6 => ⟨x8, rfl, Ex.refl _, cut_mono e6, eG'.trans e6, e6 _ _ gr', e6 _ _ g0', e6 _ _ g1', e6 _ _ g2'⟩) (fun B i σ' G ⟨_, _, e, _⟩ => e) ?_ ?_
      · rintro B' j d z σ' G6 eB' hdj hzd ⟨x8, rfl, c6, c56, e6, r6, a6, b6, l6⟩
        unfold nums at hdj
        rw [List.getElem?_map, List.getElem?_map] at hdj
        obtain ⟨kk, hkk, rfl⟩ := Option.map_eq_some_iff.mp hdj
        obtain ⟨kn, hkn, rfl⟩ := Option.map_eq_some_iff.mp hkk
        obtain rfl := dp_int hzd
        have hklt : kn < n := hungL_lt (List.mem_of_getElem? hkn)
        let σ3 : L2.St := [some v, some (.int (n : Int)), some (.ref r), some (.ref lv), some x, some (.int (b2i b)), some y, some (.ref rb), some (.int (kn : Int))]
        refine s_addSet (K := K) (l := lv) (k := kn) (x := b2i b) l6 (fun G' e => ev_var (σ := σ3) (i := 3) rfl) (fun G' e => ev_var (σ := σ3) (i := 8) rfl) (fun G' e => ev_var (σ := σ3) (i := 5) rfl) (by rw [fold_len, lens.2.2]; exact hklt) fun G7 e7 => ?_
        have ml : lv ∈ r0 :: r1 :: lv :: S := by simp
        refine ⟨_, rfl, ?_, ?_, Ex.mut (e6.trans e7) f2, (upd_ne dlr.symm).trans (e7 _ _ r6), (upd_ne dl0.symm).trans (e7 _ _ a6), (upd_ne dl1.symm).trans (e7 _ _ b6), ?_⟩
        · rw [cut_upd ml]; exact c6.trans (cut_mono e7)
        · rw [cut_upd ml]; exact c56.trans (cut_mono e7)
        · rw [upd_same, List.take_succ, hkn, Option.toList_some, List.foldl_append]
          rfl
      · rintro B' σ' G6 eB' ⟨x8, rfl, c6, c56, e6, r6, a6, b6, l6⟩
        have lh : (nums hi).length = hs.length := by unfold nums; rw [List.length_map, List.length_map]
        rw [lh, List.take_length] at l6
        refine ⟨_, _, _, _, _, rfl, cB'.trans c56, e6, r6, a6, b6, ?_⟩
        rw [l6, listed_succ hxs]
        show some (HO.lst _) = some (.lst (((hungL t (asg xs) n).foldl (fun l k => addAt l k (b2i (t.lit (asg xs)))) (listed t n i).2.2).map V.int))
        rw [hb]
    · rintro B σ' G eB ⟨x4, x5, x6, x7, x8, rfl, cB, eG, gr, g0, g1, g2⟩
      rw [List.length_map] at g0 g1 g2
      have DS := D.mono eG
      have nS : ∀ {b : Addr}, H b = none → b ∉ S := fun h z => D _ z h
      refine (eu_tup (σ := [some v, some (.int (n : Int)), some (.ref r), some (.ref lv), x4, x5, x6, x7, x8]) (ea_cons (ev_var (i := 2) rfl) (ea_cons (ev_var (i := 3) rfl) ea_nil)) (show 2 ≤ 100000 by decide)) G (Ex.refl G) _ fun p H6 hp e6 h6 => ?_
      refine k _ H6 (eG.trans e6) (.tup (st_of ((cut_out (DS.new hp)).trans h6)) (.cons (.lst (sq_of ((cut_out (nS fr)).trans (e6 _ _ gr))) (.cons (.lst (sq_of ((cut_out (nS f0)).trans (e6 _ _ g0))) (nums_dpa _)) (.cons (.lst (sq_of ((cut_out (nS f1)).trans (e6 _ _ g1))) (nums_dpa _)) .nil))) (.cons (.lst (sq_of ((cut_out (nS f2)).trans (e6 _ _ g2))) (nums_dpa _)) .nil)))
end
end Dl

set_option Elab.async false
set_option maxRecDepth 100000
set_option maxHeartbeats 4000000
set_option linter.all false
/-! the law's bare rows -/
namespace Dl
open PySem L2 Evl Dt
section
variable {P : Program} {w : World} {K : PySem.W.Frag} {mg : Str → Option Value} {base : Heap} {f C pF : Addr} {fd : FuncData}
/-- L: the last place above 0 -/
def LastAt (ns : List Int) (L : Nat) : Prop := (∃ x, ns[L]? = some x ∧ 0 < x) ∧ ∀ (j : Nat) (y : Int), L < j → ns[j]? = some y → y ≤ 0
def spBare (K : PySem.W.Frag) : Sp := fun vs H Q _ => ∃ (S : List Addr) (v : V) (ns : List Int) (L : Nat), vs = [v] ∧ Dom S H ∧ Dp K (cut S H) v (.list (nums ns)) ∧ ns.length ≤ 1000 ∧ LastAt ns L ∧ ∀ y H', Ex H H' → Dp K (cut S H') y (tupD (ns.take (L + 1))) → Q y H'
abbrev s_law_bare : Stmt := topS 42
abbrev N_law_bare : List Str := ["_law_row", "_law_last", "_law_at"]
theorem sc_law_bare : FnScope N_law_bare ["_law_row"] (defScope s_law_bare) := ⟨rfl, rfl, rfl, by decide +kernel, rfl, by decide +kernel, by decide +kernel⟩

theorem ok_law_bare (F : Fun K "_law_bare" "_law_bare" s_law_bare f fd) (T : Nm mg) : FnOk P w K mg base CX0 1 f fd ["_law_row"] (spBare K) := by
  refine F.ok sc_law_bare (fun vs H Q E h => ?_) (fun cdv A' outer s H vs Q E hr h => ?_)
  · obtain ⟨S, v, ns, L, rfl, _⟩ := h
    rfl
  · obtain ⟨S, v, ns, L, rfl, D, hv, hz, ⟨⟨x, hL, hx⟩, hlast⟩, k⟩ := h
    have nd := sc_law_bare.nd
    obtain ⟨a, rfl, hl⟩ := dl_ints hv
    have hl := ex_l (cut_le S H) hl
    refine ⟨_, (pss_cons (ps_set (i := 1) nd rfl (Or.inl rfl) (pe_callB (cr_max rfl) (by rfl) T.n_max (by decide +kernel) (pa_cons (pe_lc (own := [("_law_at", 2)]) rfl nd (pi_range1 rfl T.n_range (pa_cons (pe_callB call_len_seq (by rfl) T.n_len (by decide +kernel) (pa_cons (pv 0) pa_nil)) pa_nil)) (blkOk_by (own := [("_law_at", 2)]) (N := N_law_bare) (sc := defScope s_law_bare) (by decide +kernel)) (fun _ _ _ _ _ => (pg_name (i := 2) nd rfl (Or.inl rfl))) (fun _ _ _ _ _ => (pts_one (pt_cmpR op_gt (pe_ix (show IxR _ (rIxL K) from ix_list) (pv 0) (pv 2) (fun _ _ => rfl)) pe_int (nomark _)))) (fun _ _ _ _ _ => (pv 2))) pa_nil)))
  (pss_one (ps_ret (pe_callTy call_tuple_of (by rfl) T.n_tuple (by decide +kernel) (pa_cons (pe_slice sl_list (pv 0) po_none (po_some (pe_op op_add (pv 1) pe_int))) pa_nil))))), ?_⟩
    let σ0 : L2.St := start N_law_bare [.ref a]
    have hlen : Ev (tCB (rLenS K) (tCons (tVar 0) tNil)) σ0 H (.int (ns.length : Int)) := by
      have := ev_len (K := K) (ev_var (σ := σ0) (i := 0) (H := H) rfl) hl
      rwa [List.length_map] at this
    have hlc := el_lcR1 (σ := σ0) (H := H) (j := 2) (vs := [2]) (n := (ns.length : Int)) (t := tTest (tOp (rI0 fun i j => .bl (decide (j < i))) (tOp (rIxL K) (tVar 0) (tVar 2)) (tC (.int 0)))) (te := tVar 2)
      (fun i => decide (0 < ns.getD i 0)) (fun i => .int (i : Int)) (ea_cons hlen ea_nil) (by omega) (fun x => rfl) (fun i H2 e2 hi => by
        have hil : i < ns.length := by omega
        refine et_test (ev_op (ev_ixV (ev_var (i := 0) rfl) (ex_l e2 hl) (ev_var (i := 2) rfl) (atI_map (List.getElem?_eq_getElem hil))) ev_c ?_)
        rw [List.getD_eq_getElem?_getD, List.getElem?_eq_getElem hil]
        exact rv_I0)
      (fun i H2 e2 hi _ => ev_var (i := 2) rfl)
    have eg : given (ns.length : Int).toNat (fun i => decide (0 < ns.getD i 0)) (fun i => .int (i : Int)) = (((List.range ns.length).filter fun i => decide (0 < ns.getD i 0)).map fun (i : Nat) => (i : Int)).map V.int := by
      unfold given
      rw [Int.toNat_natCast, List.map_map]
      rfl
    rw [eg] at hlc
    have hLl := (List.getElem?_eq_some_iff.mp hL).1
    have hm : (L : Int) ∈ ((List.range ns.length).filter fun i => decide (0 < ns.getD i 0)).map fun (i : Nat) => (i : Int) :=
      List.mem_map.mpr ⟨L, List.mem_filter.mpr ⟨List.mem_range.mpr hLl, decide_eq_true (by rw [List.getD_eq_getElem?_getD, hL]; exact hx)⟩, rfl⟩
    refine q_asg (v := .int (L : Int)) (ev_maxL (K := K) hlc (List.length_pos_of_mem hm) hm fun y hy => ?_) fun H1 e1 => ?_
    · obtain ⟨i, hi, rfl⟩ := List.mem_map.mp hy
      obtain ⟨h1, h2⟩ := List.mem_filter.mp hi
      have h1 := List.mem_range.mp h1
      have h2 := of_decide_eq_true h2
      rw [List.getD_eq_getElem?_getD, List.getElem?_eq_getElem h1, Option.getD_some] at h2
      by_cases hc : L < i
      · have := hlast i _ hc (List.getElem?_eq_getElem h1)
        omega
      · omega
    · have D1 := D.mono e1
      have hsl := el_sl (K := K) (σ := [some (.ref a), some (.int (L : Int)), none]) (H := H1) (te := tVar 0) (tl := tNoPart) (th := tPart (tOp (rI0 fun i j => .int (i + j)) (tVar 1) (tC (.int 1)))) (lo := none) (hi := some ((L + 1 : Nat) : Int)) (ev_var (i := 0) rfl) eo_none (eo_some (ev_op (ev_var (i := 1) rfl) ev_c rv_I0)) (ex_l e1 hl)
      have ec : cutV (ns.map V.int) none (some ((L + 1 : Nat) : Int)) = (ns.take (L + 1)).map V.int := by
        unfold cutV
        rw [HT.sIx_none, HT.sIx_nat, List.length_map, List.drop_zero, Nat.sub_zero, Nat.min_eq_left (by omega), List.map_take]
      rw [ec] at hsl
      exact sd_ret (K := K) (S := S) (ed_tupOf D1 (ed_ofIntsS D1 hsl) fun p ys H1 Q hs hk => ⟨p, ys, rfl, .inl ⟨hs, hk⟩⟩) fun y H2 e2 hy => k y H2 (e1.trans e2) hy
end
end Dl

set_option Elab.async false
set_option maxRecDepth 100000
set_option maxHeartbeats 4000000
set_option linter.all false
/-! the law's counts -/
namespace Dl
open PySem L2 Evl Dt
theorem hcs_at {z : Nat} {w : Bool} : ∀ {ps : List T} {j : Nat} {p : T}, ps[j]? = some p → (T.levss ps).Nodup → z ∈ p.levs → T.hcs z w ps = p.hc z * prodI ((ps.take j ++ ps.drop (j + 1)).map (kept w))
  | [], j, p, h, _, _ => by simp at h
  | t :: ps, 0, p, h, nl, hz => by
    simp at h
    subst h
    rw [T.levss, List.nodup_append] at nl
    have h0 : T.hcs z w ps = 0 := hcs_zero (hcs_part fun m => nl.2.2 z hz z m rfl)
    rw [T.hcs, h0, Int.mul_zero, Int.add_zero]
    rfl
  | t :: ps, j + 1, p, h, nl, hz => by
    have hp' : ps[j]? = some p := by simpa using h
    rw [T.levss, List.nodup_append] at nl
    have ih := hcs_at (w := w) hp' nl.2.1 hz
    have hm : z ∈ T.levss ps := by rw [levss_flat]; exact List.mem_flatMap.mpr ⟨p, List.mem_of_getElem? hp', hz⟩
    have ht : t.hc z = 0 := hc_zero fun m => nl.2.2 z m z hm rfl
    rw [T.hcs, ht, Int.zero_mul, Int.zero_add, ih, List.take_succ_cons, List.drop_succ_cons, List.cons_append, List.map_cons, prodI_cons]
    rw [← Int.mul_assoc, ← Int.mul_assoc, Int.mul_comm (kept w t)]
theorem levss_take {ps : List T} {i : Nat} {p : T} (h : ps[i]? = some p) : T.levss (ps.take (i + 1)) = T.levss (ps.take i) ++ p.levs := by
  rw [levss_flat, levss_flat, List.take_succ, h, Option.toList_some, List.flatMap_append]
  simp
section
variable {P : Program} {w : World} {K : PySem.W.Frag} {mg : Str → Option Value} {base : Heap} {f C pF : Addr} {fd : FuncData}
def spCounts (K : PySem.W.Frag) (n : Nat) : Sp := fun vs H Q _ => ∃ (S : List Addr) (v : V) (m : Int) (t : T) (d : Addr) (kvs : List (Key × V)), vs = [v, .int m, .ref d] ∧ Dom (d :: S) H ∧ Dp K (cut (d :: S) H) v t.d ∧ H d = some (.dK kvs) ∧ Sml t ∧ t.height ≤ n ∧ t.levs.Nodup ∧ kvs.length + t.levs.length ≤ 1000 ∧
  ∀ kvs' H', H' d = some (.dK kvs') → ExB d H H' → kvs'.length ≤ kvs.length + t.levs.length → (∀ z : Nat, z ∈ t.levs → valV kvs' (.inl (z : Int)) = some (.int (m * t.hc z))) → (∀ z : Nat, z ∉ t.levs → valV kvs' (.inl (z : Int)) = valV kvs (.inl (z : Int))) → Q (.ref d) H'
abbrev s_law_counts : Stmt := topS 45
abbrev N_law_counts : List Str := ["_law_tree", "_law_times", "_law_found", "_law_at", "_law_more", "_law_other"]
theorem sc_law_counts : FnScope N_law_counts ["_law_tree", "_law_times", "_law_found"] (defScope s_law_counts) := ⟨rfl, rfl, rfl, by decide +kernel, rfl, by decide +kernel, by decide +kernel⟩

theorem ok_law_counts (F : Fun K "_law_counts" "_law_counts" s_law_counts f fd) (T : Nm mg) (hm : mg "_law_counts" = some (.ref f)) (kp : PySem.W.keepIn K (.ref f) = true) (bd : Binds K fd ["_law_tree", "_law_times", "_law_found"] [])
    (h_halves : ∀ n : Nat, Has P w K mg base (n + 1) "_law_halves" ["_law_tree"] (spHalves K n)) :
    ∀ n : Nat, FnOk P w K mg base CX0 (n + 1) f fd ["_law_tree", "_law_times", "_law_found"] (spCounts K n) := by
  intro n
  induction n with
  | zero =>
    refine F.ok sc_law_counts (fun vs H Q E h => ?_) (fun cdv A' outer s H vs Q E hr h => ?_)
    · obtain ⟨S, v, m, t, d, kvs, rfl, _⟩ := h
      rfl
    · obtain ⟨S, v, m, t, d, kvs, rfl, _, _, _, _, h0, _⟩ := h
      exact absurd (height_pos t) (by omega)
  | succ n ih =>
    have h_law_counts : Has P w K mg base (n + 1) "_law_counts" ["_law_tree", "_law_times", "_law_found"] (spCounts K n) := ⟨f, fd, ih, hm, kp, bd⟩
    have h_law_halves := h_halves n
    refine F.ok sc_law_counts (fun vs H Q E h => ?_) (fun cdv A' outer s H vs Q E hr h => ?_)
    · obtain ⟨S, v, m, t, d, kvs, rfl, _⟩ := h
      rfl
    · obtain ⟨S, v, m, t, d, kvs, rfl, D, hv, hd, hs, hh, hnd, hsz, k⟩ := h
      have nd := sc_law_counts.nd
      have hu := hu_of hr
      refine ⟨_, (pss_cons (ps_if (pt_val (pe_callB call_isi (by rfl) T.n_isinstance (by decide +kernel) (pa_cons (pv 0) (pa_cons (pe_bltn (v := .ty "int") (u := .type "int") (by rfl) T.n_int (by decide +kernel) rfl) pa_nil)))) (pss_cons (ps_dput hu (pv 2) (pv 0) (pv 1) rfl)
  (pss_one (ps_ret (pv 2)))) pss_nil)
  (pss_cons (ps_for PassesOwn.never rfl (pi_range1 rfl T.n_range (pa_cons (pe_callB call_len_seq (by rfl) T.n_len (by decide +kernel) (pa_cons (pe_ix ix_tup (pv 0) pe_int (fun _ _ => rfl)) pa_nil)) pa_nil)) (pg_name (i := 3) nd rfl (Or.inl rfl)) (pss_cons (ps_set (i := 4) nd rfl (Or.inl rfl) (pv 1))
  (pss_cons (ps_for PassesOwn.never rfl (pi_tup (pe_op op_catA (pe_slice sl_tupA (pe_ix ix_tup (pv 0) pe_int (fun _ _ => rfl)) po_none (po_some (pv 3))) (pe_slice sl_tupA (pe_ix ix_tup (pv 0) pe_int (fun _ _ => rfl)) (po_some (pe_op op_add (pv 3) pe_int)) po_none))) (pg_name (i := 5) nd rfl (Or.inl rfl)) (pss_one (ps_set (i := 4) nd rfl (Or.inl rfl) (pe_op op_mul (pv 4) (pe_ix ix_tup (pe_has h_law_halves (hr.mono (by first | decide | omega)) (pa_cons (pv 5) pa_nil)) (pe_ifExp (pt_cmpR op_eq (pe_ix ix_tup (pv 0) pe_int (fun _ _ => rfl)) pe_str (nomark _)) pe_int pe_int) (fun _ _ => rfl))))))
  (pss_one (ps_set (i := 2) nd rfl (Or.inl rfl) (pe_has h_law_counts (hr.mono (by first | decide | omega)) (pa_cons (pe_ix ix_tup (pe_ix ix_tup (pv 0) pe_int (fun _ _ => rfl)) (pv 3) (fun _ _ => rfl)) (pa_cons (pv 4) (pa_cons (pv 2) pa_nil)))))))))
  (pss_one (ps_ret (pv 2))))), ?_⟩
      have v0 : EvD K (d :: S) (tVar 0) (start N_law_counts [v, .int m, .ref d]) H t.d := ed_var (i := 0) rfl hv
      cases t with
      | lev z =>
        rw [Dl.T.d] at v0 hv
        obtain rfl := dp_int hv
        have hl : (Dl.T.lev z).levs = [z] := by rw [Dl.T.levs]
        rw [hl] at k hsz
        refine q_when (b := true) (et_B (ev_isi v0 (kit_int _ rfl))) (fun _ H1 e1 => ?_) (fun z => nomatch z)
        refine ⟨_, rfl, _, rfl, _, rfl, d, _, rfl, DPut.k (k := .inl (z : Int)) (e1 _ _ hd) (small1000 (by have : ([z] : List Nat).length = 1 := rfl; omega)), ?_⟩
        refine s_ret (ev_var (i := 2) rfl) fun H2 e2 => k (putK kvs (.inl (z : Int)) (.int m)) H2 (e2 _ _ upd_same) (((ExB.of e1).trans ExB.upd).trans (.of e2)) ?_ (fun y hy => ?_) (fun y hy => ?_)
        · unfold putK
          split
          · rw [List.length_map]; omega
          · rw [List.length_append]; exact Nat.le_refl _
        · rw [List.mem_singleton.mp hy, valV_put, if_pos rfl, Dl.T.hc, if_pos rfl, Int.mul_one]
        · rw [valV_put, if_neg]
          intro e
          have := Sum.inl.inj e
          exact hy (List.mem_singleton.mpr (by omega))
      | knot w ps =>
        rw [Dl.T.height] at hh
        rw [Dl.T.levs] at hnd hsz k
        rw [Dl.T.d, Dl.T.ds_map] at v0 hv
        have hpt := hs.part
        have hbd : ∀ t ∈ ps, 1 ≤ (cnt t).1 ∧ 1 ≤ (cnt t).2 ∧ (cnt t).1 + (cnt t).2 ≤ 1073741824 := fun t ht => cnt_bound (hpt t ht).form (hpt t ht).few
        have hform := hs.form
        rw [Dl.T.form, Bool.and_eq_true, Bool.and_eq_true, decide_eq_true_eq, decide_eq_true_eq] at hform
        refine q_when (b := false) (et_B (ev_isi v0 (kit_int _ rfl))) (fun z => nomatch z) (fun _ H1 e1 => ?_)
        have hd1 := e1 _ _ hd
        have hv1 := dp_mono (cut_mono e1) _ hv
        have tree1 : ∀ (x1 x2 x3 x4 x5 : Option V) (G : Hp), Ex (cut (d :: S) H1) (cut (d :: S) G) → EvD K (d :: S) (tOp (rIxT K) (tVar 0) (tC (.int 1))) [some v, x1, x2, x3, x4, x5] G (.tuple (ps.map Dl.T.d)) := fun x1 x2 x3 x4 x5 G c =>
          ed_ixT (ed_var (i := 0) rfl (dp_mono c _ hv1)) ed_int rfl
        have word : ∀ (x1 x2 x3 x4 x5 : Option V) (G : Hp), Ex (cut (d :: S) H1) (cut (d :: S) G) → EvT (tTest (tOp rEq (tOp (rIxT K) (tVar 0) (tC (.int 0))) (tC (.str "all")))) [some v, x1, x2, x3, x4, x5] G w := fun x1 x2 x3 x4 x5 G c => by
          have w0 : EvD K (d :: S) (tOp (rIxT K) (tVar 0) (tC (.int 0))) [some v, x1, x2, x3, x4, x5] G (.str (wd w)) := ed_ixT (ed_var (i := 0) rfl (dp_mono c _ hv1)) ed_int rfl
          refine et_is (et_test (ev_op w0.str ev_c (rv_eq rfl))) ?_
          cases w
          · exact decide_eq_false fun z => absurd (V.str.inj z) (by decide +kernel)
          · exact decide_eq_true rfl
        have hlen : Ev (tCB (rLenS K) (tCons (tOp (rIxT K) (tVar 0) (tC (.int 1))) tNil)) (start N_law_counts [v, .int m, .ref d]) H1 (.int (ps.length : Int)) := by
          have := ev_lenD (tree1 (some (.int m)) (some (.ref d)) none none none H1 (Ex.refl _)) rfl
          have e2 : (seqD (.tuple (ps.map Dl.T.d))).length = ps.length := by show (ps.map Dl.T.d).length = _; rw [List.length_map]
          rwa [e2] at this
        have D1 : Dom (d :: S) H1 := D.mono e1
        refine q_forR1 (j := 3) (n := (ps.length : Int)) (ea_cons hlen ea_nil) (by omega) (fun i σ' G => ∃ x3 x4 x5 kv, σ' = [some v, some (.int m), some (.ref d), x3, x4, x5] ∧ ExB d H1 G ∧ G d = some (.dK kv) ∧ kv.length ≤ kvs.length + (Dl.T.levss (ps.take i)).length ∧
            (∀ z : Nat, z ∈ Dl.T.levss (ps.take i) → valV kv (.inl (z : Int)) = some (.int (m * Dl.T.hcs z w ps))) ∧ (∀ z : Nat, z ∉ Dl.T.levss (ps.take i) → valV kv (.inl (z : Int)) = valV kvs (.inl (z : Int))))
          (fun H2 e2 => ⟨none, none, none, kvs, rfl, .of e2, e2 _ _ hd1, Nat.le_add_right _ _, fun z hz => (by rw [List.take_zero, Dl.T.levss] at hz; exact nomatch hz), fun z _ => rfl⟩) ?_ ?_
        · rintro i σ' G hi ⟨x3, x4, x5, kv, rfl, eG, hdG, hlk, hin, hout⟩
          have hil : i < ps.length := by omega
          obtain ⟨p, hp⟩ : ∃ p, ps[i]? = some p := ⟨ps[i], List.getElem?_eq_getElem hil⟩
          have hpm := List.mem_of_getElem? hp
          have DG : ∀ {G' : Hp}, ExB d H1 G' → G' d ≠ none → Dom (d :: S) G' := fun e a b hb => by
            by_cases z : b = d
            · rw [z]; exact a
            · cases q : H1 b with
              | none => exact absurd q (D1 b hb)
              | some o => rw [e b o q z]; exact fun z => nomatch z
          have DG0 := DG eG (by rw [hdG]; exact fun z => nomatch z)
          have cG : Ex (cut (d :: S) H1) (cut (d :: S) G) := eG.cut
          show tSeq _ _ _ [some v, some (.int m), some (.ref d), some (.int (i : Int)), x4, x5] G
          refine q_asg (ev_var (i := 1) rfl) fun G1 e2 => ?_
          have c1 := cG.trans (cut_mono e2)
          have D2 := DG0.mono e2
          let oth := ps.take i ++ ps.drop (i + 1)
          have hoth : ∀ t ∈ oth, t ∈ ps := fun t ht => by
            rcases List.mem_append.mp ht with h | h
            · exact List.mem_of_mem_take h
            · exact List.mem_of_mem_drop h
          let σ1 : L2.St := [some v, some (.int m), some (.ref d), some (.int (i : Int)), some (.int m), x5]
          have plus1 : Ev (tOp (rI0 fun i j => .int (i + j)) (tVar 3) (tC (.int 1))) σ1 G1 (.int ((i + 1 : Nat) : Int)) := ev_is (ev_op (ev_var (i := 3) rfl) ev_c rv_I0) (by show V.int ((i : Int) + 1) = _; congr 1)
          have hot : EvD K (d :: S) (tOp (rCatA K) (tSl (rSlA K) (tOp (rIxT K) (tVar 0) (tC (.int 1))) tNoPart (tPart (tVar 3))) (tSl (rSlA K) (tOp (rIxT K) (tVar 0) (tC (.int 1))) (tPart (tOp (rI0 fun i j => .int (i + j)) (tVar 3) (tC (.int 1)))) tNoPart)) σ1 G1 (.tuple (oth.map Dl.T.d)) := by
            have lm : (ps.map Dl.T.d).length = ps.length := List.length_map _
            have := ed_catA (K := K) D2 (ed_takeA (K := K) (k := i) D2 (tree1 _ _ _ _ _ G1 c1) (eo_some (ev_var (i := 3) rfl)) (by omega)) (ed_dropA (K := K) (k := i + 1) D2 (tree1 _ _ _ _ _ G1 c1) (eo_some plus1) (by omega)) (by rw [List.length_take, List.length_drop, lm]; omega)
            rw [← List.map_take, ← List.map_drop, ← List.map_append] at this
            exact this
          refine q_forTD (K := K) (S := d :: S) (j := 5) (ds := oth.map Dl.T.d) hot (fun B j σ' G => ∃ x5, σ' = [some v, some (.int m), some (.ref d), some (.int (i : Int)), some (.int (m * prodI ((oth.take j).map (kept w)))), x5] ∧ Ex B G)
            (fun H2 e3 => ⟨x5, by rw [show m * prodI ((oth.take 0).map (kept w)) = m from Int.mul_one m]; rfl, Ex.refl H2⟩) (fun B j σ' G ⟨_, _, e⟩ => cut_mono e) ?_ ?_
          · rintro B j dd x σ' G2 eB hdj hxd ⟨x5, rfl, e3⟩
            rw [List.getElem?_map] at hdj
            obtain ⟨t, ht, rfl⟩ := Option.map_eq_some_iff.mp hdj
            have htp := hoth t (List.mem_of_getElem? ht)
            have e4 := eB.trans e3
            have c2 := c1.trans (cut_mono e4)
            have D3 := D2.mono e4
            have hb := hbd t htp
            have hkp := kept_pos (w := w) (hpt t htp)
            let σ2 : L2.St := [some v, some (.int m), some (.ref d), some (.int (i : Int)), some (.int (m * prodI ((oth.take j).map (kept w)))), some x]
            have hh2 := ed_halves (K := K) (E := E0) (σ := σ2) (n := n) D3 (ed_var (i := 5) rfl hxd) (hpt t htp) (by have := height_mem htp; omega)
            have hsel : Ev (tIf (tTest (tOp rEq (tOp (rIxT K) (tVar 0) (tC (.int 0))) (tC (.str "all")))) (tC (.int 1)) (tC (.int 0))) σ2 G2 (.int (if w then 1 else 0)) := ev_if (b := w) (word _ _ _ _ _ G2 c2) (fun hw => by rw [hw]; exact ev_c) (fun hw => by rw [hw]; exact ev_c)
            have hkv : EvD K (d :: S) (tOp (rIxT K) (tCall (spHalves K n) [] E0 (tCons (tVar 5) tNil)) (tIf (tTest (tOp rEq (tOp (rIxT K) (tVar 0) (tC (.int 0))) (tC (.str "all")))) (tC (.int 1)) (tC (.int 0)))) σ2 G2 (.int (kept w t)) :=
              ed_ixT (ds := [.int (cnt t).1, .int (cnt t).2]) hh2 (ed_I hsel) (by cases w <;> rfl)
            refine s_asg (ev_op (ev_var (σ := σ2) (i := 4) rfl) hkv.int (rv_I (.inr ⟨by omega, by omega⟩))) fun G3 e5 => ⟨some x, ?_, e3.trans e5⟩
            rw [List.take_succ, ht, Option.toList_some, List.map_append, List.map_singleton, prodI_snoc, ← Int.mul_assoc]
            rfl
          · rintro B σ' G2 eB ⟨x5, rfl, e3⟩
            rw [List.length_map, List.take_length]
            have e4 := eB.trans e3
            have c2 := c1.trans (cut_mono e4)
            have D3 := D2.mono e4
            have eHG := (eG.trans (.of e2)).trans (.of e4)
            have hd2 := e4 _ _ (e2 _ _ hdG)
            let σ2 : L2.St := [some v, some (.int m), some (.ref d), some (.int (i : Int)), some (.int (m * prodI (oth.map (kept w)))), x5]
            have hpart : EvD K (d :: S) (tOp (rIxT K) (tOp (rIxT K) (tVar 0) (tC (.int 1))) (tVar 3)) σ2 G2 p.d := ed_ixT (tree1 _ _ _ _ _ G2 c2) (ed_I (ev_var (i := 3) rfl)) (atI_nat (by rw [List.getElem?_map, hp]; rfl))
            have hltk := levss_take hp
            have hsub : (Dl.T.levss (ps.take (i + 1))).length ≤ (Dl.T.levss ps).length := by
              have : ps = ps.take (i + 1) ++ ps.drop (i + 1) := (List.take_append_drop _ _).symm
              conv => rhs; rw [this]
              rw [levss_flat, levss_flat, List.flatMap_append, List.length_append]
              omega
            rw [hltk, List.length_append] at hsub
            refine hpart G2 (Ex.refl G2) _ fun y G3 e5 hy => ⟨_, rfl, _, rfl, S, y, m * prodI (oth.map (kept w)), p, d, kv, rfl, D3.mono e5, hy, e5 _ _ hd2, hpt p hpm, by have := height_mem hpm; omega, levss_nodup hnd p hpm, by omega, fun kv' G4 hd4 e6 hl4 hin4 hout4 => ?_⟩
            refine ⟨_, _, _, kv', rfl, (eHG.trans (.of e5)).trans e6, hd4, by rw [hltk, List.length_append]; omega, fun z hz => ?_, fun z hz => ?_⟩
            · rw [hltk] at hz
              by_cases hzp : z ∈ p.levs
              · rw [hin4 z hzp, hcs_at hp hnd hzp, Int.mul_assoc, Int.mul_comm (p.hc z)]
              · rcases List.mem_append.mp hz with hz | hz
                · rw [hout4 z hzp, hin z hz]
                · exact absurd hz hzp
            · rw [hltk, List.mem_append, not_or] at hz
              rw [hout4 z hz.2, hout z hz.1]
        · rintro σ' G ⟨x3, x4, x5, kv, rfl, eG, hdG, hlk, hin, hout⟩
          rw [Int.toNat_natCast, List.take_length] at hlk hin hout
          refine s_ret (ev_var (i := 2) rfl) fun G1 e2 => k kv G1 (e2 _ _ hdG) (((ExB.of e1).trans eG).trans (.of e2)) hlk (fun z hz => ?_) hout
          rw [hin z hz, Dl.T.hc]
end
end Dl

set_option Elab.async false
set_option maxRecDepth 100000
set_option linter.all false
/-! the sum of the places: dark, burning and by levers alike -/
namespace Dl
/-- each number times its place, summed -/
def c1 (p : List Int) : Int := P0 (fun k => (k : Int)) p
theorem pr_id : ∀ (p : List Int) (i : Nat), pr (fun k => (k : Int)) p i = (i : Int) * p.sum + pr (fun k => (k : Int)) p 0
  | [], i => by show (0 : Int) = (i : Int) * 0 + 0; rw [Int.mul_zero]; rfl
  | x :: r, i => by
    have h1 := pr_id r (i + 1)
    have h2 := pr_id r (0 + 1)
    rw [pr, pr, List.sum_cons, h1, h2, Int.mul_add, Int.mul_comm x (i : Int)]
    have e1 : ((i + 1 : Nat) : Int) * r.sum = (i : Int) * r.sum + r.sum := by rw [Int.natCast_add, Int.add_mul]; simp
    have e2 : ((0 + 1 : Nat) : Int) * r.sum = r.sum := by simp
    rw [e1, e2]
    have e3 : x * ((0 : Nat) : Int) = 0 := by simp
    rw [e3]
    omega
theorem pr_lin (a b : Int) : ∀ (p : List Int) (i : Nat), pr (fun k => (k : Int) * a + b) p i = pr (fun k => (k : Int)) p i * a + p.sum * b
  | [], _ => by show (0 : Int) = 0 * a + 0 * b; simp
  | x :: r, i => by
    rw [pr, pr, pr_lin a b r, List.sum_cons, Int.mul_add, Int.add_mul, Int.add_mul, Int.mul_assoc]
    omega
theorem c1_times {xs ys : List Int} (hx : 1 ≤ xs.length) (hy : 1 ≤ ys.length) : c1 (timesP xs ys) = c1 xs * ys.sum + xs.sum * c1 ys := by
  unfold c1
  rw [P0_times _ hx hy]
  have e : (fun (k : Nat) => pr (fun k => (k : Int)) ys k) = fun (k : Nat) => (k : Int) * ys.sum + P0 (fun k => (k : Int)) ys := by
    funext k
    exact pr_id ys k
  rw [e]
  exact pr_lin _ _ xs 0
theorem one1_scale (c : Int) : ∀ (ts xs : List Int), one1 ts (xs.map fun x => x) = one1 ts xs := fun ts xs => by rw [List.map_id']
theorem c1_foldl : ∀ {ss : List (List Int)} {m : List Int}, Pz m → (∀ p ∈ ss, Pz p) → c1 (ss.foldl timesP m) = c1 m * prodI (ss.map List.sum) + m.sum * one1 (ss.map List.sum) (ss.map c1)
  | [], m, _, _ => by
    show c1 m = c1 m * 1 + m.sum * 0
    rw [Int.mul_one, Int.mul_zero, Int.add_zero]
  | s :: r, m, h, hs => by
    have h1 := hs s List.mem_cons_self
    have ih := c1_foldl (timesP_pz h h1) fun p hp => hs p (List.mem_cons_of_mem _ hp)
    rw [List.foldl_cons, ih, c1_times h.ne h1.ne, timesP_sum h.ne h1.ne, List.map_cons, List.map_cons, prodI_cons, one1, Int.add_mul, Int.mul_add, Int.mul_assoc, Int.mul_assoc, Int.mul_assoc]
    omega
theorem c1_all {ss : List (List Int)} (h : ∀ p ∈ ss, Pz p) : c1 (timesAll ss) = one1 (ss.map List.sum) (ss.map c1) := by
  have := c1_foldl pz_one h
  rw [show c1 [1] = 0 from rfl, show ([1] : List Int).sum = 1 from rfl, Int.zero_mul, Int.one_mul, Int.zero_add] at this
  exact this
theorem c1_hangs {ss us : List (List Int)} (hl : ss.length = us.length) (hs : ∀ p ∈ ss, Pz p) : c1 (hangs ss us).1 = one1 (ss.map List.sum) (ss.map c1) ∧ c1 (hangs ss us).2 = one1 (ss.map List.sum) (us.map c1) := by
  have p1 : ∀ t ∈ ss.map List.sum, 1 ≤ t := fun t ht => by
    obtain ⟨p, hp, rfl⟩ := List.mem_map.mp ht
    exact (hs p hp).pos
  have e1 : (hangs ss us).1 = timesAll ss := rfl
  have e2 : (hangs ss us).2 = plusP (oneU (prodI (ss.map List.sum)) (ss.map List.sum) us [0]) [prodI (List.zipWith (fun s u => s.sum + u.sum) ss us) - (timesAll ss).sum - (oneU (prodI (ss.map List.sum)) (ss.map List.sum) us [0]).sum] := rfl
  refine ⟨by rw [e1]; exact c1_all hs, ?_⟩
  rw [e2]
  unfold c1
  rw [P0_plus, oneU_P0 _ _ _ _ _ (by simpa using hl), sdiv_one1 _ _ p1]
  have z1 : P0 (fun k => (k : Int)) [(0 : Int)] = 0 := rfl
  have z2 : ∀ x : Int, P0 (fun k => (k : Int)) [x] = 0 := fun x => by show x * 0 + 0 = 0; rw [Int.mul_zero]; rfl
  rw [z1, z2, Int.zero_add, Int.add_zero]
theorem sum_add {α : Type} (f g : α → Int) : ∀ l : List α, (l.map fun x => f x + g x).sum = (l.map f).sum + (l.map g).sum
  | [] => rfl
  | a :: r => by rw [List.map_cons, List.map_cons, List.map_cons, List.sum_cons, List.sum_cons, List.sum_cons, sum_add f g r]; omega
theorem sum_mulR {α : Type} (f : α → Int) (c : Int) : ∀ l : List α, (l.map fun x => f x * c).sum = (l.map f).sum * c
  | [] => by simp
  | a :: r => by rw [List.map_cons, List.map_cons, List.sum_cons, List.sum_cons, sum_mulR f c r, Int.add_mul]
theorem sum_mulL {α : Type} (f : α → Int) (c : Int) : ∀ l : List α, (l.map fun x => c * f x).sum = c * (l.map f).sum
  | [] => by simp
  | a :: r => by rw [List.map_cons, List.map_cons, List.sum_cons, List.sum_cons, sum_mulL f c r, Int.mul_add]
theorem sum_hcs (w : Bool) (L : List Nat) : ∀ ps : List T, (L.map fun z => T.hcs z w ps).sum = one1 (ps.map (kept w)) (ps.map fun t => (L.map fun z => t.hc z).sum)
  | [] => by
    have : (L.map fun z => T.hcs z w []) = L.map fun _ => 0 := List.map_congr_left fun z _ => by rw [T.hcs]
    rw [this]
    show _ = (0 : Int)
    induction L with
    | nil => rfl
    | cons a r ih => rw [List.map_cons, List.sum_cons, ih (List.map_congr_left fun z _ => by rw [T.hcs])]; rfl
  | t :: r => by
    have : (L.map fun z => T.hcs z w (t :: r)) = L.map fun z => t.hc z * prodI (r.map (kept w)) + kept w t * T.hcs z w r := List.map_congr_left fun z _ => by rw [T.hcs]
    rw [this, sum_add, sum_mulR, sum_mulL, sum_hcs w L r, List.map_cons, List.map_cons, one1]
theorem sum_pick {y : Nat} : ∀ {L : List Nat}, L.Nodup → y ∈ L → (L.map fun z => if y = z then (1 : Int) else 0).sum = 1
  | a :: r, nd, m => by
    obtain ⟨h1, h2⟩ := List.nodup_cons.mp nd
    rw [List.map_cons, List.sum_cons]
    have zero : ∀ {r : List Nat}, y ∉ r → (r.map fun z => if y = z then (1 : Int) else 0).sum = 0 := fun {r} => by
      induction r with
      | nil => intro _; rfl
      | cons b q ih =>
        intro h
        rw [List.mem_cons, not_or] at h
        rw [List.map_cons, List.sum_cons, if_neg h.1, ih h.2]
        rfl
    by_cases e : y = a
    · rw [if_pos e, zero (e ▸ h1)]
      rfl
    · rw [if_neg e, sum_pick h2 ((List.mem_cons.mp m).resolve_left e)]
      rfl
mutual
theorem c1_hung {L : List Nat} (nd : L.Nodup) : ∀ t : T, t.form = true → (∀ z ∈ t.levs, z ∈ L) → c1 t.hung.1 = (L.map fun z => t.hc z).sum ∧ c1 t.hung.2 = (L.map fun z => t.hc z).sum
  | .lev y, _, hl => by
    have e : (L.map fun z => (T.lev y).hc z) = L.map fun z => if y = z then (1 : Int) else 0 := List.map_congr_left fun z _ => by rw [T.hc]
    rw [T.levs] at hl
    rw [e, sum_pick nd (hl y (List.mem_singleton_self y)), T.hung]
    exact ⟨rfl, rfl⟩
  | .knot w ps, hf, hl => by
    rw [T.levs] at hl
    have hf' := hf
    rw [T.form, Bool.and_eq_true, Bool.and_eq_true, decide_eq_true_eq, decide_eq_true_eq] at hf'
    have hp := hbs w ps hf'.2
    have ih := c1_hungs nd w ps hf'.2 hl
    have pd : ∀ p ∈ ps.map (fun t => t.hung.1), Pz p := fun p hp' => by
      obtain ⟨t, ht, rfl⟩ := List.mem_map.mp hp'
      exact (hp t ht).dark
    have pb : ∀ p ∈ ps.map (fun t => t.hung.2), Pz p := fun p hp' => by
      obtain ⟨t, ht, rfl⟩ := List.mem_map.mp hp'
      exact (hp t ht).burn
    have e : (L.map fun z => (T.knot w ps).hc z) = L.map fun z => T.hcs z w ps := List.map_congr_left fun z _ => by rw [T.hc]
    rw [e, sum_hcs]
    have ed : (ps.map fun t => t.hung.1).map c1 = ps.map fun t => (L.map fun z => t.hc z).sum := by rw [List.map_map]; exact List.map_congr_left fun t ht => (ih t ht).1
    have eb : (ps.map fun t => t.hung.2).map c1 = ps.map fun t => (L.map fun z => t.hc z).sum := by rw [List.map_map]; exact List.map_congr_left fun t ht => (ih t ht).2
    cases w with
    | true =>
      have eh : (T.knot true ps).hung = ((hangs (T.burns ps) (T.darks ps)).2, (hangs (T.burns ps) (T.darks ps)).1) := by rw [T.hung]; rfl
      rw [burns_map, darks_map] at eh
      have es : (ps.map fun t => t.hung.2).map List.sum = ps.map (kept true) := by rw [List.map_map]; rfl
      obtain ⟨h1, h2⟩ := c1_hangs (ss := ps.map fun t => t.hung.2) (us := ps.map fun t => t.hung.1) (by simp) pb
      rw [eh]
      exact ⟨by rw [h2, es, ed], by rw [h1, es, eb]⟩
    | false =>
      have eh : (T.knot false ps).hung = hangs (T.darks ps) (T.burns ps) := by rw [T.hung]; rfl
      rw [burns_map, darks_map] at eh
      have es : (ps.map fun t => t.hung.1).map List.sum = ps.map (kept false) := by rw [List.map_map]; rfl
      obtain ⟨h1, h2⟩ := c1_hangs (ss := ps.map fun t => t.hung.1) (us := ps.map fun t => t.hung.2) (by simp) pd
      rw [eh]
      exact ⟨by rw [h1, es, ed], by rw [h2, es, eb]⟩
theorem c1_hungs {L : List Nat} (nd : L.Nodup) : ∀ (w : Bool) (ps : List T), T.forms w ps = true → (∀ z ∈ T.levss ps, z ∈ L) → ∀ t ∈ ps, c1 t.hung.1 = (L.map fun z => t.hc z).sum ∧ c1 t.hung.2 = (L.map fun z => t.hc z).sum
  | _, [], _, _, t, m => nomatch m
  | w, a :: r, h, hl, t, m => by
    rw [T.forms, Bool.and_eq_true, Bool.and_eq_true] at h
    rw [T.levss] at hl
    rcases List.mem_cons.mp m with e | m
    · rw [e]; exact c1_hung nd a h.1.1 fun z hz => hl z (List.mem_append_left _ hz)
    · exact c1_hungs nd w r h.2 (fun z hz => hl z (List.mem_append_right _ hz)) t m
end
end Dl

set_option Elab.async false
set_option maxRecDepth 100000
set_option maxHeartbeats 4000000
set_option linter.all false
/-! sorted() of a list of lists of ints -/
namespace Dt
open PySem L2 Evl PyProof.Rows PySem.W
def leL (p q : V × List Int) : Bool := decide (p.2 ≤ q.2)
def rSortLL (K : PySem.W.Frag) : List V → Hp → VK → Prop := fun vs H Q => ∃ (a : Addr) (ps : List (V × List Int)), vs = [V.ref a] ∧ SqL K H a (ps.map Prod.fst) ∧ (∀ p ∈ ps, Dp K H p.1 (.list (nums p.2))) ∧
  ∀ (q : Addr), H q = none → Q (.ref q) (upd H q (.lst ((ps.mergeSort leL).map Prod.fst)))
theorem each_of {K : PySem.W.Frag} : ∀ {ps : List (V × List Int)} {its : List Value}, Vals (ps.map Prod.fst) its → EachIs (fun v (p : V × List Int) => RelV p.1 v) its ps
  | [], _, h => by cases h; exact .nil
  | p :: r, _, h => by
    cases h with
    | cons h1 h2 => exact .cons h1 (each_of (K := K) h2)
theorem of_each : ∀ {ps : List (V × List Int)} {its : List Value}, EachIs (fun v (p : V × List Int) => RelV p.1 v) its ps → Vals (ps.map Prod.fst) its
  | _, _, .nil => .nil
  | _, _, .cons h1 h2 => .cons h1 (of_each h2)
theorem each_imp {α β : Type} {R R' : α → β → Prop} : ∀ {as : List α} {bs : List β}, EachIs R as bs → (∀ a, ∀ b ∈ bs, R a b → R' a b) → EachIs R' as bs
  | _, _, .nil, _ => .nil
  | _, _, .cons h1 h2, k => .cons (k _ _ List.mem_cons_self h1) (each_imp h2 fun a b hb => k a b (List.mem_cons_of_mem _ hb))
section
variable {X : Cx}
theorem cr_sortLL (hu : X.A.units + 64 < cLine) : CallR X (.builtin "sorted") (rSortLL X.K) := by
  intro pins s σ H vs us Q I r h
  obtain ⟨a, ps, rfl, hs, hd, q⟩ := h
  obtain ⟨its, rv, hl, hz⟩ := I.list hs
  rw [Vals.ref1 r]
  have e1 := each_of (K := X.K) rv
  have hlen : ps.length ≤ sizeLine := by rw [List.length_map] at hz; exact hz
  refine sorted_data (enc := fun p : V × List Int => .list (p.2.map .int)) (R := fun v (p : V × List Int) => RelV p.1 v) hl.isList e1 (each_imp e1 fun v p hp hr => Dp.reads I _ _ _ (hd p hp) hr) (AllAlike.of fun b b' => ?_) (Sortable.others fun b => ⟨fun z => (nomatch z), fun xs z => (nomatch z)⟩) hlen (fun b _ => ?_) fun out ho eo => ?_
  · rw [alike]
    exact alike_ints _ _
  · rw [PyData.depth, PySem.W.depth_ints]
    omega
  · rw [dataLe_rows] at eo
    obtain ⟨ep, he'⟩ := PyProof.Rows.sortedAll_at s.heap its out.toArray
    have hl2 : ((ps.mergeSort leL).map Prod.fst).length ≤ sizeLine := by
      rw [List.length_map, (List.mergeSort_perm ps leL).length_eq]
      exact hlen
    exact ⟨.ref _, upd H (s.heap.objs.size + 1) (.lst ((ps.mergeSort leL).map Prod.fst)), I.laid (t' := s.toks) (fun _ _ => PyProof.Rows.sortedAll_old) (Nat.le_succ _) ⟨hl2, out, ep, of_each eo, he'⟩, rfl, q _ (I.hok.fresh (Nat.le_succ _))⟩
end
/-- by heads that are apart -/
theorem le_heads {a b : Int} {x y : List Int} (h : a ≠ b) : (a :: x ≤ b :: y) ↔ a < b := by
  rw [List.cons_le_cons_iff]
  constructor
  · rintro (h1 | ⟨h1, _⟩)
    · exact h1
    · exact absurd h1 h
  · exact .inl
end Dt

set_option Elab.async false
set_option maxRecDepth 100000
set_option linter.all false
/-! sums over settings, lever by lever -/
namespace Dl
def upA (a : Nat → Bool) (l : Nat) (b : Bool) : Nat → Bool := fun z => if z = l then b else a z
def sm : List Nat → ((Nat → Bool) → Int) → (Nat → Bool) → Int
  | [], φ, a => φ a
  | l :: L, φ, a => sm L φ (upA a l false) + sm L φ (upA a l true)
theorem sm_congr {φ ψ : (Nat → Bool) → Int} (h : ∀ a, φ a = ψ a) : ∀ (L : List Nat) (a : Nat → Bool), sm L φ a = sm L ψ a
  | [], a => h a
  | l :: L, a => by rw [sm, sm, sm_congr h L, sm_congr h L]
theorem sm_add (φ ψ : (Nat → Bool) → Int) : ∀ (L : List Nat) (a : Nat → Bool), sm L (fun a => φ a + ψ a) a = sm L φ a + sm L ψ a
  | [], a => rfl
  | l :: L, a => by rw [sm, sm, sm, sm_add φ ψ L, sm_add φ ψ L]; omega
theorem sm_append (φ : (Nat → Bool) → Int) (M : List Nat) : ∀ (L : List Nat) (a : Nat → Bool), sm (L ++ M) φ a = sm L (fun a => sm M φ a) a
  | [], a => rfl
  | l :: L, a => by rw [List.cons_append, sm, sm, sm_append φ M L, sm_append φ M L]
/-- f does not look at the levers of L -/
def Blind {α : Type} (f : (Nat → Bool) → α) (L : List Nat) : Prop := ∀ l ∈ L, ∀ (a : Nat → Bool) (b : Bool), f (upA a l b) = f a
theorem Blind.tail {α : Type} {f : (Nat → Bool) → α} {l : Nat} {L : List Nat} (h : Blind f (l :: L)) : Blind f L := fun x hx => h x (List.mem_cons_of_mem _ hx)
theorem sm_factor {f g : (Nat → Bool) → Int} : ∀ {L : List Nat}, Blind f L → ∀ a, sm L (fun a => f a * g a) a = f a * sm L g a
  | [], _, a => rfl
  | l :: L, h, a => by
    rw [sm, sm, sm_factor h.tail, sm_factor h.tail, h l List.mem_cons_self, h l List.mem_cons_self, Int.mul_add]
theorem sm_const {f : (Nat → Bool) → Int} : ∀ {L : List Nat}, Blind f L → ∀ a, sm L f a = f a * 2 ^ L.length
  | [], _, a => by show f a = f a * 1; rw [Int.mul_one]
  | l :: L, h, a => by
    rw [sm, sm_const h.tail, sm_const h.tail, h l List.mem_cons_self, h l List.mem_cons_self, List.length_cons, Int.pow_succ]
    rw [← Int.mul_assoc, Int.mul_comm _ 2]
    omega
theorem upA_comm {a : Nat → Bool} {l m : Nat} {b c : Bool} (h : l ≠ m) : upA (upA a l b) m c = upA (upA a m c) l b := by
  funext z
  unfold upA
  by_cases h1 : z = m
  · rw [if_pos h1, if_neg (fun e => h (e.symm.trans h1)), if_pos h1]
  · rw [if_neg h1]
    by_cases h2 : z = l
    · rw [if_pos h2, if_pos h2]
    · rw [if_neg h2, if_neg h2, if_neg h1]
theorem sm_perm (φ : (Nat → Bool) → Int) {L M : List Nat} (p : L.Perm M) : L.Nodup → ∀ a, sm L φ a = sm M φ a := by
  induction p with
  | nil => intro _ a; rfl
  | cons x _ ih =>
    intro nd a
    have h := (List.nodup_cons.mp nd).2
    rw [sm, sm, ih h, ih h]
  | swap x y L =>
    intro nd a
    have h : y ≠ x := fun e => (List.nodup_cons.mp nd).1 (e ▸ List.mem_cons_self)
    rw [sm, sm, sm, sm, sm, sm, upA_comm h, upA_comm h, upA_comm h, upA_comm h]
    omega
  | trans p1 p2 ih1 ih2 =>
    intro nd a
    rw [ih1 nd, ih2 (p1.nodup_iff.mp nd)]
theorem flip_up (a : Nat → Bool) (k : Nat) : flipA a k = upA a k (!a k) := by
  funext z
  unfold flipA upA
  by_cases h : z = k
  · rw [if_pos h, if_pos h, h]
  · rw [if_neg h, if_neg h]
mutual
theorem lit_blind {l : Nat} : ∀ {t : T}, l ∉ t.levs → ∀ (a : Nat → Bool) (b : Bool), t.lit (upA a l b) = t.lit a
  | .lev z, h, a, b => by
    rw [T.levs] at h
    rw [T.lit, T.lit]
    exact if_neg fun e => h (by rw [e]; exact List.mem_singleton_self l)
  | .knot w ps, h, a, b => by
    rw [T.levs] at h
    have hp := lits_blind (l := l) h a b
    rw [T.lit, T.lit, litAll_eq, litAll_eq, litAny_eq, litAny_eq]
    have e1 : (ps.all fun t => t.lit (upA a l b)) = ps.all fun t => t.lit a := by
      rw [Bool.eq_iff_iff, List.all_eq_true, List.all_eq_true]
      exact ⟨fun q t ht => by rw [← hp t ht]; exact q t ht, fun q t ht => by rw [hp t ht]; exact q t ht⟩
    have e2 : (ps.any fun t => t.lit (upA a l b)) = ps.any fun t => t.lit a := by
      rw [Bool.eq_iff_iff, List.any_eq_true, List.any_eq_true]
      exact ⟨fun ⟨t, ht, q⟩ => ⟨t, ht, by rw [← hp t ht]; exact q⟩, fun ⟨t, ht, q⟩ => ⟨t, ht, by rw [hp t ht]; exact q⟩⟩
    rw [e1, e2]
theorem lits_blind {l : Nat} : ∀ {ps : List T}, l ∉ T.levss ps → ∀ (a : Nat → Bool) (b : Bool), ∀ t ∈ ps, t.lit (upA a l b) = t.lit a
  | [], _, _, _, t, m => nomatch m
  | p :: r, h, a, b, t, m => by
    rw [T.levss, List.mem_append, not_or] at h
    rcases List.mem_cons.mp m with e | m
    · rw [e]; exact lit_blind h.1 a b
    · exact lits_blind h.2 a b t m
end
/-- does lever z hang in t under a -/
def hangs1 (t : T) (a : Nat → Bool) (z : Nat) : Bool := t.lit (flipA a z) != t.lit a
/-- how many levers hang -/
def nh (t : T) (a : Nat → Bool) : Nat := (t.levs.filter (hangs1 t a)).length
theorem hangs1_out {t : T} {a : Nat → Bool} {z : Nat} (h : z ∉ t.levs) : hangs1 t a z = false := by
  unfold hangs1
  rw [flip_up, lit_blind h]
  simp
theorem hangs1_blind {t : T} {l z : Nat} (h : l ∉ t.levs) (hz : z ∈ t.levs) (a : Nat → Bool) (b : Bool) : hangs1 t (upA a l b) z = hangs1 t a z := by
  have ne : z ≠ l := fun e => h (e ▸ hz)
  unfold hangs1
  have e1 : flipA (upA a l b) z = upA (flipA a z) l b := by
    rw [flip_up, flip_up, show upA a l b z = a z from if_neg ne, upA_comm (Ne.symm ne)]
  rw [e1, lit_blind h, lit_blind h]
theorem nh_blind {t : T} {l : Nat} (h : l ∉ t.levs) (a : Nat → Bool) (b : Bool) : nh t (upA a l b) = nh t a := by
  unfold nh
  congr 1
  exact List.filter_congr fun z hz => hangs1_blind h hz a b
end Dl

set_option Elab.async false
set_option maxRecDepth 100000
set_option linter.all false
/-! what hangs in a knot, from its parts -/
namespace Dl
theorem sm_subst {α : Type} {f : (Nat → Bool) → α} {G : α → (Nat → Bool) → Int} : ∀ {L : List Nat}, Blind f L → ∀ a, sm L (fun a' => G (f a') a') a = sm L (G (f a)) a
  | [], _, a => rfl
  | l :: L, h, a => by
    rw [sm, sm, sm_subst h.tail, sm_subst h.tail, h l List.mem_cons_self, h l List.mem_cons_self]
theorem sm_zero : ∀ (L : List Nat) (a : Nat → Bool), sm L (fun _ => 0) a = 0
  | [], a => rfl
  | l :: L, a => by rw [sm, sm_zero L, sm_zero L]; rfl
theorem sm_mulL (c : Int) (φ : (Nat → Bool) → Int) : ∀ (L : List Nat) (a : Nat → Bool), sm L (fun a => c * φ a) a = c * sm L φ a
  | [], a => rfl
  | l :: L, a => by rw [sm, sm, sm_mulL c φ L, sm_mulL c φ L, Int.mul_add]
def okAll (w : Bool) (ps : List T) (a : Nat → Bool) : Bool := ps.all fun t => t.lit a == w
def nhs (w : Bool) : List T → (Nat → Bool) → Nat
  | [], _ => 0
  | t :: r, a => (if okAll w r a then nh t a else 0) + (if t.lit a == w then nhs w r a else 0)
theorem okAll_cons (w : Bool) (t : T) (r : List T) (a : Nat → Bool) : okAll w (t :: r) a = ((t.lit a == w) && okAll w r a) := rfl
theorem okAll_blind {w : Bool} {ps : List T} {l : Nat} (h : l ∉ T.levss ps) (a : Nat → Bool) (b : Bool) : okAll w ps (upA a l b) = okAll w ps a := by
  unfold okAll
  have hp := lits_blind (l := l) h a b
  rw [Bool.eq_iff_iff, List.all_eq_true, List.all_eq_true]
  exact ⟨fun q t ht => by rw [← hp t ht]; exact q t ht, fun q t ht => by rw [hp t ht]; exact q t ht⟩
theorem filter_len_and {p : Nat → Bool} (c : Bool) (L : List Nat) : (L.filter fun z => c && p z).length = if c then (L.filter p).length else 0 := by
  cases c with
  | true => rfl
  | false =>
    show (L.filter fun _ => false).length = 0
    rw [List.filter_eq_nil_iff.mpr fun _ _ => Bool.false_ne_true]
    rfl
theorem bne_beq (x y w : Bool) : ((x == w) != (y == w)) = (x != y) := by cases x <;> cases y <;> cases w <;> rfl
theorem nhs_count (w : Bool) (a : Nat → Bool) : ∀ {ps : List T}, (T.levss ps).Nodup → ((T.levss ps).filter fun z => okAll w ps (flipA a z) != okAll w ps a).length = nhs w ps a
  | [], _ => by rw [T.levss]; rfl
  | t :: r, nd => by
    rw [T.levss, List.nodup_append] at nd
    have ih := nhs_count w a (ps := r) nd.2.1
    rw [T.levss, List.filter_append, List.length_append, nhs]
    congr 1
    · have e : t.levs.filter (fun z => okAll w (t :: r) (flipA a z) != okAll w (t :: r) a) = t.levs.filter fun z => okAll w r a && hangs1 t a z := List.filter_congr fun z hz => by
        have hr : z ∉ T.levss r := fun m => nd.2.2 z hz z m rfl
        rw [okAll_cons, okAll_cons, flip_up, okAll_blind hr, ← flip_up]
        unfold hangs1
        rw [← bne_beq (t.lit (flipA a z)) (t.lit a) w]
        cases okAll w r a <;> cases (t.lit (flipA a z) == w) <;> cases (t.lit a == w) <;> rfl
      rw [e, filter_len_and]
      rfl
    · have e : (T.levss r).filter (fun z => okAll w (t :: r) (flipA a z) != okAll w (t :: r) a) = (T.levss r).filter fun z => (t.lit a == w) && (okAll w r (flipA a z) != okAll w r a) := List.filter_congr fun z hz => by
        have ht : z ∉ t.levs := fun m => nd.2.2 z m z hz rfl
        rw [okAll_cons, okAll_cons, flip_up, lit_blind ht, ← flip_up]
        cases (t.lit a == w) <;> cases okAll w r (flipA a z) <;> cases okAll w r a <;> rfl
      rw [e, filter_len_and, ih]
theorem lit_ok (w : Bool) (ps : List T) (a : Nat → Bool) : (T.knot w ps).lit a = (okAll w ps a == w) := by
  rw [T.lit, litAll_eq, litAny_eq]
  unfold okAll
  cases w with
  | true =>
    rw [if_pos rfl]
    have : (ps.all fun t => t.lit a == true) = ps.all fun t => t.lit a := by congr 1; funext t; cases t.lit a <;> rfl
    rw [this]
    cases ps.all fun t => t.lit a <;> rfl
  | false =>
    rw [if_neg Bool.false_ne_true]
    have : (ps.all fun t => t.lit a == false) = !(ps.any fun t => t.lit a) := by
      rw [List.not_any_eq_all_not]
      congr 1
      funext t
      cases t.lit a <;> rfl
    rw [this]
    cases ps.any fun t => t.lit a <;> rfl
theorem nh_knot {w : Bool} {ps : List T} (nd : (T.levss ps).Nodup) (a : Nat → Bool) : nh (.knot w ps) a = nhs w ps a := by
  unfold nh
  rw [T.levs, ← nhs_count w a nd]
  congr 1
  refine List.filter_congr fun z _ => ?_
  unfold hangs1
  rw [lit_ok, lit_ok, bne_beq]
theorem nhs_blind {w : Bool} {l : Nat} : ∀ {ps : List T}, l ∉ T.levss ps → ∀ (a : Nat → Bool) (b : Bool), nhs w ps (upA a l b) = nhs w ps a
  | [], _, _, _ => rfl
  | t :: r, h, a, b => by
    rw [T.levss, List.mem_append, not_or] at h
    rw [nhs, nhs, okAll_blind h.2, lit_blind h.1, nh_blind h.1, nhs_blind h.2]
/-- the numbers of t that is lit like b -/
def sel (b : Bool) (t : T) : List Int := if b then t.hung.2 else t.hung.1
/-- what is to be shown of t -/
def Counts (t : T) : Prop := ∀ (b : Bool) (ψ : Nat → Int) (a : Nat → Bool), sm t.levs (fun a => if t.lit a == b then ψ (nh t a) else 0) a = P0 ψ (sel b t)
theorem fold_P0 : ∀ (ss : List (List Int)) (m : List Int) (ψ : Nat → Int), 1 ≤ m.length → (∀ p ∈ ss, 1 ≤ p.length) → P0 ψ (ss.foldl timesP m) = P0 (fun k => P0 (fun j => ψ (k + j)) (timesAll ss)) m
  | [], m, ψ, hm, _ => by
    have : (fun k => P0 (fun j => ψ (k + j)) (timesAll [])) = ψ := by
      funext k
      show 1 * ψ (k + 0) + 0 = ψ k
      rw [Int.one_mul, Int.add_zero]
      rfl
    rw [this]
    rfl
  | s :: r, m, ψ, hm, hs => by
    have h1 := hs s List.mem_cons_self
    have h2 : ∀ p ∈ r, 1 ≤ p.length := fun p hp => hs p (List.mem_cons_of_mem _ hp)
    have l1 : 1 ≤ (timesP m s).length := by rw [timesP_len]; omega
    have l2 : 1 ≤ (timesP [1] s).length := by rw [timesP_len]; show 1 ≤ 1 + s.length - 1; omega
    rw [List.foldl_cons, fold_P0 r _ ψ l1 h2, P0_times _ hm h1]
    congr 1
    funext k
    have e : timesAll (s :: r) = r.foldl timesP (timesP [1] s) := rfl
    rw [e, fold_P0 r _ _ l2 h2, P0_times _ (by decide) h1]
    show pr _ s k = 1 * pr _ s 0 + 0
    rw [Int.one_mul, Int.add_zero]
    have := pr_shift (fun k => P0 (fun j => ψ (k + j)) (timesAll r)) s 0 k
    rw [Nat.zero_add] at this
    rw [this]
    congr 1
    funext i
    congr 1
    funext j
    congr 1
    omega
theorem timesAll_cons (s : List Int) (r : List (List Int)) (ψ : Nat → Int) (hs : 1 ≤ s.length) (h : ∀ p ∈ r, 1 ≤ p.length) : P0 ψ (timesAll (s :: r)) = P0 (fun k => P0 (fun j => ψ (k + j)) (timesAll r)) s := by
  have e : timesAll (s :: r) = r.foldl timesP (timesP [1] s) := rfl
  have l2 : 1 ≤ (timesP [1] s).length := by rw [timesP_len]; show 1 ≤ 1 + s.length - 1; omega
  rw [e, fold_P0 r _ ψ l2 h, P0_times _ (by decide) hs]
  show 1 * pr _ s 0 + 0 = pr _ s 0
  rw [Int.one_mul, Int.add_zero]
/-- all parts kept -/
theorem count_all {w : Bool} : ∀ {ps : List T}, (T.levss ps).Nodup → (∀ t ∈ ps, Counts t ∧ HB t) → ∀ (ψ : Nat → Int) (a : Nat → Bool),
    sm (T.levss ps) (fun a => if okAll w ps a then ψ (nhs w ps a) else 0) a = P0 ψ (timesAll (ps.map (sel w)))
  | [], _, _, ψ, a => by
    rw [T.levss]
    show ψ 0 = 1 * ψ 0 + 0
    rw [Int.one_mul, Int.add_zero]
  | t :: r, nd, h, ψ, a => by
    rw [T.levss, List.nodup_append] at nd
    obtain ⟨ht, hbt⟩ := h t List.mem_cons_self
    have hr : ∀ t ∈ r, Counts t ∧ HB t := fun x hx => h x (List.mem_cons_of_mem _ hx)
    have lsel : ∀ t, HB t → 1 ≤ (sel w t).length := fun t b => by
      unfold sel
      cases w
      · exact b.dark.ne
      · exact b.burn.ne
    rw [T.levss, sm_append]
    have bl : Blind (fun a => (t.lit a == w, nh t a)) (T.levss r) := fun l hl a b => by
      have : l ∉ t.levs := fun m => nd.2.2 l m l hl rfl
      show (t.lit (upA a l b) == w, nh t (upA a l b)) = _
      rw [lit_blind this, nh_blind this]
    have inner : ∀ a, sm (T.levss r) (fun a => if okAll w (t :: r) a then ψ (nhs w (t :: r) a) else 0) a = if t.lit a == w then P0 (fun j => ψ (nh t a + j)) (timesAll (r.map (sel w))) else 0 := fun a => by
      have e1 : sm (T.levss r) (fun a => if okAll w (t :: r) a then ψ (nhs w (t :: r) a) else 0) a =
          sm (T.levss r) (fun a' => (fun (x : Bool × Nat) (a' : Nat → Bool) => if x.1 then (if okAll w r a' then ψ (x.2 + nhs w r a') else 0) else 0) (t.lit a' == w, nh t a') a') a := sm_congr (fun a' => by
        show (if okAll w (t :: r) a' then ψ (nhs w (t :: r) a') else 0) = (if (t.lit a' == w) = true then (if okAll w r a' = true then ψ (nh t a' + nhs w r a') else 0) else 0)
        rw [okAll_cons, nhs]
        cases (t.lit a' == w) <;> cases okAll w r a' <;> rfl) _ _
      rw [e1, sm_subst (G := fun (x : Bool × Nat) (a' : Nat → Bool) => if x.1 then (if okAll w r a' then ψ (x.2 + nhs w r a') else 0) else 0) bl]
      cases h1 : (t.lit a == w) with
      | true => exact count_all nd.2.1 hr (fun j => ψ (nh t a + j)) a
      | false => exact sm_zero _ _
    rw [sm_congr inner, ht w (fun k => P0 (fun j => ψ (k + j)) (timesAll (r.map (sel w)))) a, List.map_cons, timesAll_cons _ _ _ (lsel t hbt) (fun p hp => by
      obtain ⟨x, hx, rfl⟩ := List.mem_map.mp hp
      exact lsel x (hr x hx).2)]
theorem P0_1 (p : List Int) : P0 (fun _ => (1 : Int)) p = p.sum := P0_one p
theorem count_ok {w : Bool} {ps : List T} (nd : (T.levss ps).Nodup) (h : ∀ t ∈ ps, Counts t ∧ HB t) (a : Nat → Bool) : sm (T.levss ps) (fun a => if okAll w ps a then 1 else 0) a = prodI (ps.map fun t => (sel w t).sum) := by
  have h1 := count_all nd h (w := w) (fun _ => 1) a
  rw [h1, P0_1, timesAll_sum (fun p hp => by
    obtain ⟨x, hx, rfl⟩ := List.mem_map.mp hp
    unfold sel
    cases w
    · exact (h x hx).2.dark
    · exact (h x hx).2.burn), List.map_map]
  rfl
/-- not all parts kept -/
theorem count_not {w : Bool} (ψ : Nat → Int) : ∀ {ps : List T}, (T.levss ps).Nodup → (∀ t ∈ ps, Counts t ∧ HB t) → ∀ (a : Nat → Bool),
    sm (T.levss ps) (fun a => if okAll w ps a then 0 else ψ (nhs w ps a)) a = one1 (ps.map fun t => (sel w t).sum) (ps.map fun t => P0 ψ (sel (!w) t)) +
      ψ 0 * (2 ^ (T.levss ps).length - prodI (ps.map fun t => (sel w t).sum) - one1 (ps.map fun t => (sel w t).sum) (ps.map fun t => (sel (!w) t).sum))
  | [], _, _, a => by
    rw [T.levss]
    show (0 : Int) = 0 + ψ 0 * (1 - 1 - 0)
    simp
  | t :: r, nd, h, a => by
    rw [T.levss, List.nodup_append] at nd
    obtain ⟨ht, hbt⟩ := h t List.mem_cons_self
    have hr : ∀ t ∈ r, Counts t ∧ HB t := fun x hx => h x (List.mem_cons_of_mem _ hx)
    rw [T.levss, sm_append]
    have bl : Blind (fun a => (t.lit a == w, nh t a)) (T.levss r) := fun l hl a b => by
      have : l ∉ t.levs := fun m => nd.2.2 l m l hl rfl
      show (t.lit (upA a l b) == w, nh t (upA a l b)) = _
      rw [lit_blind this, nh_blind this]
    have ihr := count_not (w := w) ψ nd.2.1 hr
    generalize hN : one1 (r.map fun t => (sel w t).sum) (r.map fun t => P0 ψ (sel (!w) t)) + ψ 0 * (2 ^ (T.levss r).length - prodI (r.map fun t => (sel w t).sum) - one1 (r.map fun t => (sel w t).sum) (r.map fun t => (sel (!w) t).sum)) = N at ihr
    have hP := fun a => count_ok (w := w) nd.2.1 hr a
    have inner : ∀ a, sm (T.levss r) (fun a => if okAll w (t :: r) a then 0 else ψ (nhs w (t :: r) a)) a =
        N * (if t.lit a == w then 1 else 0) + (prodI (r.map fun t => (sel w t).sum) * (if t.lit a == !w then ψ (nh t a) else 0) + (ψ 0 * (2 ^ (T.levss r).length - prodI (r.map fun t => (sel w t).sum))) * (if t.lit a == !w then 1 else 0)) := fun a => by
      have e1 : sm (T.levss r) (fun a => if okAll w (t :: r) a then 0 else ψ (nhs w (t :: r) a)) a =
          sm (T.levss r) (fun a' => (fun (x : Bool × Nat) (a' : Nat → Bool) => if x.1 then (if okAll w r a' then 0 else ψ (nhs w r a')) else (ψ x.2 * (if okAll w r a' then 1 else 0) + ψ 0 * (1 + (-1) * (if okAll w r a' then 1 else 0)))) (t.lit a' == w, nh t a') a') a := sm_congr (fun a' => by
        show (if okAll w (t :: r) a' then 0 else ψ (nhs w (t :: r) a')) = (if (t.lit a' == w) = true then (if okAll w r a' = true then 0 else ψ (nhs w r a')) else (ψ (nh t a') * (if okAll w r a' = true then 1 else 0) + ψ 0 * (1 + (-1) * (if okAll w r a' = true then 1 else 0))))
        rw [okAll_cons, nhs]
        cases (t.lit a' == w) <;> cases okAll w r a' <;> simp) _ _
      rw [e1, sm_subst (G := fun (x : Bool × Nat) (a' : Nat → Bool) => if x.1 then (if okAll w r a' then 0 else ψ (nhs w r a')) else (ψ x.2 * (if okAll w r a' then 1 else 0) + ψ 0 * (1 + (-1) * (if okAll w r a' then 1 else 0)))) bl]
      have ew : (t.lit a == !w) = !(t.lit a == w) := by cases t.lit a <;> cases w <;> rfl
      rw [ew]
      cases h1 : (t.lit a == w) with
      | true =>
        show sm (T.levss r) (fun a' => if okAll w r a' then 0 else ψ (nhs w r a')) a = _
        rw [ihr a]
        simp
      | false =>
        show sm (T.levss r) (fun a' => ψ (nh t a) * (if okAll w r a' then 1 else 0) + ψ 0 * (1 + (-1) * (if okAll w r a' then 1 else 0))) a = _
        rw [sm_add, sm_mulL, sm_mulL, sm_add, sm_mulL, hP, sm_const (f := fun _ => 1) (fun l hl a b => rfl)]
        simp
        rw [Int.mul_comm, ← Int.sub_eq_add_neg]
    have cw := ht w (fun _ => 1) a
    have cn := ht (!w) (fun _ => 1) a
    have cψ := ht (!w) ψ a
    rw [P0_1] at cw cn
    rw [sm_congr inner, sm_add, sm_add, sm_mulL, sm_mulL, sm_mulL, cw, cn, cψ, List.map_cons, List.map_cons, List.map_cons, one1, one1, prodI_cons, List.length_append, Int.pow_add]
    have hs : (sel w t).sum + (sel (!w) t).sum = 2 ^ t.levs.length := by
      have := hbt.sum
      unfold sel
      cases w
      · exact this
      · rw [Int.add_comm]; exact this
    rw [← hs, ← hN]
    generalize (sel w t).sum = s
    generalize (sel (!w) t).sum = u
    generalize P0 ψ (sel (!w) t) = q
    generalize prodI (r.map fun t => (sel w t).sum) = p
    generalize (2 : Int) ^ (T.levss r).length = W
    generalize one1 (r.map fun t => (sel w t).sum) (r.map fun t => P0 ψ (sel (!w) t)) = o
    generalize one1 (r.map fun t => (sel w t).sum) (r.map fun t => (sel (!w) t).sum) = o2
    generalize ψ 0 = y
    simp only [Int.mul_add, Int.add_mul, Int.mul_sub, Int.sub_mul]
    ac_nf
    omega
end Dl

set_option Elab.async false
set_option maxRecDepth 100000
set_option linter.all false
/-! the numbers of a tree are the counts over all settings -/
namespace Dl
theorem P0_hangs2 (ψ : Nat → Int) {ss us : List (List Int)} (hl : ss.length = us.length) (hs : ∀ p ∈ ss, Pz p) :
    P0 ψ (hangs ss us).2 = one1 (ss.map List.sum) (us.map (P0 ψ)) + ψ 0 * (prodI (List.zipWith (fun s u => s.sum + u.sum) ss us) - prodI (ss.map List.sum) - one1 (ss.map List.sum) (us.map List.sum)) := by
  have p1 : ∀ t ∈ ss.map List.sum, 1 ≤ t := fun t ht => by
    obtain ⟨p, hp, rfl⟩ := List.mem_map.mp ht
    exact (hs p hp).pos
  have e2 : (hangs ss us).2 = plusP (oneU (prodI (ss.map List.sum)) (ss.map List.sum) us [0]) [prodI (List.zipWith (fun s u => s.sum + u.sum) ss us) - (timesAll ss).sum - (oneU (prodI (ss.map List.sum)) (ss.map List.sum) us [0]).sum] := rfl
  have o1 : (oneU (prodI (ss.map List.sum)) (ss.map List.sum) us [0]).sum = one1 (ss.map List.sum) (us.map List.sum) := by
    rw [← P0_one, oneU_P0 _ _ _ _ _ (by simpa using hl)]
    have e : us.map (P0 fun _ => 1) = us.map List.sum := List.map_congr_left fun p _ => P0_one p
    rw [e, sdiv_one1 _ _ p1]
    show (0 : Int) * 1 + 0 + _ = _
    omega
  have z1 : ∀ x : Int, P0 ψ [x] = ψ 0 * x := fun x => by show x * ψ 0 + 0 = _; rw [Int.add_zero, Int.mul_comm]
  rw [e2, P0_plus, oneU_P0 _ _ _ _ _ (by simpa using hl), sdiv_one1 _ _ p1, o1, timesAll_sum hs, z1, z1, Int.mul_zero, Int.zero_add]
theorem levss_nodup2 : ∀ {ps : List T}, (T.levss ps).Nodup → ∀ t ∈ ps, t.levs.Nodup
  | [], _, _, m => nomatch m
  | a :: r, h, t, m => by
    rw [T.levss, List.nodup_append] at h
    rcases List.mem_cons.mp m with e | m
    · rw [e]; exact h.1
    · exact levss_nodup2 h.2.1 t m
theorem counts_knot {w : Bool} {ps : List T} (hf : (T.knot w ps).form = true) (nd : (T.levss ps).Nodup) (h : ∀ t ∈ ps, Counts t ∧ HB t) : Counts (.knot w ps) := fun b ψ a => by
  have pz : ∀ (b : Bool), ∀ p ∈ ps.map (sel b), Pz p := fun b p hp => by
    obtain ⟨x, hx, rfl⟩ := List.mem_map.mp hp
    unfold sel
    cases b
    · exact (h x hx).2.dark
    · exact (h x hx).2.burn
  have ed : (ps.map fun t => t.hung.1) = ps.map (sel false) := rfl
  have eb : (ps.map fun t => t.hung.2) = ps.map (sel true) := rfl
  have e1 : sel w (.knot w ps) = (hangs (ps.map (sel w)) (ps.map (sel (!w)))).1 := by
    unfold sel
    rw [T.hung, burns_map, darks_map]
    cases w <;> rfl
  have e2 : sel (!w) (.knot w ps) = (hangs (ps.map (sel w)) (ps.map (sel (!w)))).2 := by
    unfold sel
    rw [T.hung, burns_map, darks_map]
    cases w <;> rfl
  rw [T.levs]
  by_cases hb : b = w
  · subst hb
    rw [e1]
    show _ = P0 ψ (timesAll (ps.map (sel b)))
    rw [← count_all nd h ψ a]
    refine sm_congr (fun a => ?_) _ _
    rw [lit_ok, nh_knot nd]
    cases okAll b ps a <;> cases b <;> rfl
  · have hb : b = !w := by cases b <;> cases w <;> first | rfl | exact absurd rfl hb
    subst hb
    have zs : prodI (List.zipWith (fun (s u : List Int) => s.sum + u.sum) (ps.map (sel w)) (ps.map (sel (!w)))) = 2 ^ (T.levss ps).length := by
      rw [zip_map2, ← prodI_pow]
      congr 1
      refine List.map_congr_left fun t ht => ?_
      have := (h t ht).2.sum
      unfold sel
      cases w
      · exact this
      · rw [← this]; exact Int.add_comm _ _
    have m1 : (ps.map (sel w)).map List.sum = ps.map fun t => (sel w t).sum := by rw [List.map_map]; rfl
    have m2 : (ps.map (sel (!w))).map List.sum = ps.map fun t => (sel (!w) t).sum := by rw [List.map_map]; rfl
    have m3 : (ps.map (sel (!w))).map (P0 ψ) = ps.map fun t => P0 ψ (sel (!w) t) := by rw [List.map_map]; rfl
    rw [e2, P0_hangs2 ψ (by simp) (pz w), zs, m1, m2, m3, ← count_not ψ nd h a]
    refine sm_congr (fun a => ?_) _ _
    rw [lit_ok, nh_knot nd]
    cases okAll w ps a <;> cases w <;> rfl
theorem nh_lev (z : Nat) (a : Nat → Bool) : nh (.lev z) a = 1 := by
  have h1 : hangs1 (.lev z) a z = true := by
    unfold hangs1
    rw [T.lit, T.lit]
    show (flipA a z z != a z) = true
    unfold flipA
    rw [if_pos rfl]
    cases a z <;> rfl
  unfold nh
  rw [T.levs, List.filter_cons, if_pos h1]
  rfl
mutual
theorem counts : ∀ t : T, t.form = true → t.levs.Nodup → Counts t
  | .lev z, _, _ => fun b ψ a => by
    have e : sel b (.lev z) = [0, 1] := by unfold sel; rw [T.hung]; cases b <;> rfl
    have l : ∀ a : Nat → Bool, (T.lev z).lit a = a z := fun a => by rw [T.lit]
    have u : ∀ c, upA a z c z = c := fun c => if_pos rfl
    rw [e, T.levs]
    show (if (T.lev z).lit (upA a z false) == b then ψ (nh (.lev z) (upA a z false)) else 0) + (if (T.lev z).lit (upA a z true) == b then ψ (nh (.lev z) (upA a z true)) else 0) = 0 * ψ 0 + (1 * ψ 1 + 0)
    rw [nh_lev, nh_lev, l, l, u, u]
    cases b <;> simp
  | .knot w ps, hf, nd => by
    have hf' := hf
    rw [T.form, Bool.and_eq_true] at hf'
    rw [T.levs] at nd
    exact counts_knot hf nd (countss w ps hf'.2 nd)
theorem countss : ∀ (w : Bool) (ps : List T), T.forms w ps = true → (T.levss ps).Nodup → ∀ t ∈ ps, Counts t ∧ HB t
  | _, [], _, _, t, m => nomatch m
  | w, p :: r, h, nd, t, m => by
    rw [T.forms, Bool.and_eq_true, Bool.and_eq_true] at h
    rw [T.levss, List.nodup_append] at nd
    rcases List.mem_cons.mp m with e | m
    · rw [e]; exact ⟨counts p h.1.1 nd.1, hb p h.1.1⟩
    · exact countss w r h.2 nd.2.1 t m
end
end Dl

set_option Elab.async false
set_option maxRecDepth 100000
set_option linter.all false
/-! the lists by trying, and the tree's numbers -/
namespace Dl
theorem asg_app {xs : List Int} {n : Nat} (h : xs.length = n) (c : Int) (b : Bool) (hc : decide (c = 1) = b) : asg (xs ++ [c]) = upA (asg xs) n b := by
  funext z
  show decide ((xs ++ [c]).getD z 0 = 1) = if z = n then b else decide (xs.getD z 0 = 1)
  rw [List.getD_eq_getElem?_getD, List.getD_eq_getElem?_getD]
  by_cases hz : z < xs.length
  · rw [List.getElem?_append_left hz, if_neg (by omega)]
  · rw [List.getElem?_append_right (by omega)]
    by_cases e : z = n
    · rw [if_pos e, e, h, Nat.sub_self]
      exact hc
    · rw [if_neg e, List.getElem?_eq_none_iff.mpr (show [c].length ≤ z - xs.length by show 1 ≤ _; omega), List.getElem?_eq_none_iff.mpr (by omega)]
theorem all_sm : ∀ (n : Nat) (φ : (Nat → Bool) → Int), ((allS n).map fun xs => φ (asg xs)).sum = sm (List.range n) φ (fun _ => false)
  | 0, φ => by
    have : asg [] = fun _ => false := by funext z; rfl
    show φ (asg []) + 0 = φ _
    rw [this, Int.add_zero]
  | n + 1, φ => by
    rw [List.range_succ, sm_append]
    have ih := all_sm n (fun a => φ (upA a n false) + φ (upA a n true))
    have e : sm (List.range n) (fun a => sm [n] φ a) (fun _ => false) = sm (List.range n) (fun a => φ (upA a n false) + φ (upA a n true)) (fun _ => false) := rfl
    rw [e, ← ih, sum_add, allS, List.map_append, List.sum_append, List.map_map, List.map_map]
    congr 1
    · congr 1
      refine List.map_congr_left fun xs hx => ?_
      show φ (asg (xs ++ [0])) = _
      rw [asg_app (allS_mem hx).1 0 false rfl]
    · congr 1
      refine List.map_congr_left fun xs hx => ?_
      show φ (asg (xs ++ [1])) = _
      rw [asg_app (allS_mem hx).1 1 true rfl]
theorem hungL_nh {t : T} {n : Nat} (p : t.levs.Perm (List.range n)) (a : Nat → Bool) : (hungL t a n).length = nh t a := by
  unfold hungL nh
  have e : (List.range n).filter (fun k => !decide (L2.V.int (b2i (t.lit (flipA a k))) = L2.V.int (b2i (t.lit a)))) = (List.range n).filter (hangs1 t a) := List.filter_congr fun k _ => by
    unfold hangs1
    cases t.lit (flipA a k) <;> cases t.lit a <;> rfl
  rw [e]
  exact (p.filter _).length_eq.symm
theorem fold_list (t : T) (n : Nat) (ψ : Nat → Int) : ∀ (l : List (List Int)) (c : List Int × List Int × List Int), c.1.length = n + 1 → c.2.1.length = n + 1 →
    P0 ψ (l.foldl (lstep t n) c).1 = P0 ψ c.1 + (l.map fun xs => if t.lit (asg xs) == false then ψ (hungL t (asg xs) n).length else 0).sum ∧
    P0 ψ (l.foldl (lstep t n) c).2.1 = P0 ψ c.2.1 + (l.map fun xs => if t.lit (asg xs) == true then ψ (hungL t (asg xs) n).length else 0).sum
  | [], c, _, _ => by simp
  | xs :: r, c, h1, h2 => by
    have hl := hungL_len t (asg xs) n
    have l1 : (lstep t n c xs).1.length = n + 1 := by
      show (if _ then _ else _ : List Int).length = _
      split
      · exact h1
      · rw [addAt_len]; exact h1
    have l2 : (lstep t n c xs).2.1.length = n + 1 := by
      show (if _ then _ else _ : List Int).length = _
      split
      · rw [addAt_len]; exact h2
      · exact h2
    obtain ⟨i1, i2⟩ := fold_list t n ψ r _ l1 l2
    have a1 : P0 ψ (lstep t n c xs).1 = P0 ψ c.1 + (if t.lit (asg xs) == false then ψ (hungL t (asg xs) n).length else 0) := by
      show P0 ψ (if t.lit (asg xs) then c.1 else addAt c.1 (hungL t (asg xs) n).length 1) = _
      cases t.lit (asg xs) with
      | true => show P0 ψ c.1 = P0 ψ c.1 + 0; rw [Int.add_zero]
      | false =>
        show pr ψ (addAt c.1 (hungL t (asg xs) n).length 1) 0 = P0 ψ c.1 + ψ _
        rw [pr_addAt ψ 1 c.1 _ 0 (by omega), Nat.zero_add, Int.one_mul]
        rfl
    have a2 : P0 ψ (lstep t n c xs).2.1 = P0 ψ c.2.1 + (if t.lit (asg xs) == true then ψ (hungL t (asg xs) n).length else 0) := by
      show P0 ψ (if t.lit (asg xs) then addAt c.2.1 (hungL t (asg xs) n).length 1 else c.2.1) = _
      cases t.lit (asg xs) with
      | false => show P0 ψ c.2.1 = P0 ψ c.2.1 + 0; rw [Int.add_zero]
      | true =>
        show pr ψ (addAt c.2.1 (hungL t (asg xs) n).length 1) 0 = P0 ψ c.2.1 + ψ _
        rw [pr_addAt ψ 1 c.2.1 _ 0 (by omega), Nat.zero_add, Int.one_mul]
        rfl
    rw [List.foldl_cons, List.map_cons, List.map_cons, List.sum_cons, List.sum_cons, i1, i2, a1, a2]
    constructor <;> omega
/-- the rows by trying weigh what the tree's numbers weigh -/
theorem listed_P0 {t : T} {n : Nat} (hf : t.form = true) (p : t.levs.Perm (List.range n)) (ψ : Nat → Int) :
    P0 ψ (listed t n (allS n).length).1 = P0 ψ t.hung.1 ∧ P0 ψ (listed t n (allS n).length).2.1 = P0 ψ t.hung.2 := by
  have nd : t.levs.Nodup := p.nodup_iff.mpr List.nodup_range
  have c := counts t hf nd
  unfold listed
  rw [List.take_length]
  obtain ⟨h1, h2⟩ := fold_list t n ψ (allS n) (List.replicate (n + 1) 0, List.replicate (n + 1) 0, List.replicate n 0) (by simp) (by simp)
  have z : P0 ψ (List.replicate (n + 1) 0) = 0 := pr_zero ψ (n + 1) 0
  have key : ∀ b : Bool, ((allS n).map fun xs => if t.lit (asg xs) == b then ψ (hungL t (asg xs) n).length else 0).sum = P0 ψ (sel b t) := fun b => by
    have e := all_sm n (fun a => if t.lit a == b then ψ (nh t a) else 0)
    rw [← sm_perm _ p nd, c b ψ] at e
    rw [← e]
    congr 1
    refine List.map_congr_left fun xs _ => ?_
    rw [hungL_nh p]
  refine ⟨?_, ?_⟩
  · rw [h1, z, Int.zero_add]
    exact key false
  · rw [h2, z, Int.zero_add]
    exact key true
theorem pr_delta (k : Nat) : ∀ (p : List Int) (i : Nat), i ≤ k → pr (fun j => if j = k then 1 else 0) p i = p.getD (k - i) 0
  | [], i, _ => by simp [pr]
  | x :: r, i, h => by
    rw [pr]
    by_cases e : i = k
    · subst e
      have zero : ∀ (r : List Int) (m : Nat), i < m → pr (fun j => if j = i then 1 else 0) r m = 0 := fun r => by
        induction r with
        | nil => intro m _; rfl
        | cons y q ih =>
          intro m hm
          rw [pr, ih (m + 1) (by omega), if_neg (by omega), Int.mul_zero]
          rfl
      rw [if_pos rfl, zero r (i + 1) (by omega), Nat.sub_self, Int.mul_one, Int.add_zero]
      rfl
    · rw [if_neg e, Int.mul_zero, Int.zero_add, pr_delta k r (i + 1) (by omega), show k - i = (k - (i + 1)) + 1 by omega]
      rfl
/-- alike place by place -/
theorem listed_getD {t : T} {n : Nat} (hf : t.form = true) (p : t.levs.Perm (List.range n)) (k : Nat) :
    (listed t n (allS n).length).1.getD k 0 = t.hung.1.getD k 0 ∧ (listed t n (allS n).length).2.1.getD k 0 = t.hung.2.getD k 0 := by
  obtain ⟨h1, h2⟩ := listed_P0 hf p (fun j => if j = k then 1 else 0)
  unfold P0 at h1 h2
  rw [pr_delta k _ 0 (Nat.zero_le _), pr_delta k _ 0 (Nat.zero_le _), Nat.sub_zero] at h1 h2
  exact ⟨h1, h2⟩
end Dl

set_option Elab.async false
set_option maxRecDepth 100000
set_option linter.all false
/-! the last number is above 0; bare rows -/
namespace Dl
theorem getD_P0 (p : List Int) (k : Nat) : p.getD k 0 = P0 (fun j => if j = k then 1 else 0) p := by
  unfold P0
  rw [pr_delta k p 0 (Nat.zero_le _), Nat.sub_zero]
theorem getD_nn {p : List Int} (h : Nn p) (k : Nat) : 0 ≤ p.getD k 0 := by
  rw [List.getD_eq_getElem?_getD]
  cases e : p[k]? with
  | none => exact Int.le_refl _
  | some x => exact h x (List.mem_of_getElem? e)
theorem pr_nn {φ : Nat → Int} (hφ : ∀ i, 0 ≤ φ i) : ∀ {p : List Int}, Nn p → ∀ i, 0 ≤ pr φ p i
  | [], _, _ => Int.le_refl _
  | x :: r, h, i => by
    rw [pr]
    have h1 := Int.mul_nonneg h.cons.1 (hφ i)
    have h2 := pr_nn hφ h.cons.2 (i + 1)
    omega
theorem pr_ge {φ : Nat → Int} (hφ : ∀ i, 0 ≤ φ i) : ∀ {p : List Int}, Nn p → ∀ (i j : Nat), p.getD j 0 * φ (i + j) ≤ pr φ p i
  | [], _, i, j => by
    show (([] : List Int).getD j 0) * _ ≤ 0
    simp
  | x :: r, h, i, 0 => by
    rw [pr]
    have h2 := pr_nn hφ h.cons.2 (i + 1)
    show x * φ i ≤ _
    omega
  | x :: r, h, i, j + 1 => by
    rw [pr]
    have h1 := Int.mul_nonneg h.cons.1 (hφ i)
    have h2 := pr_ge hφ h.cons.2 (i + 1) j
    rw [show i + 1 + j = i + (j + 1) by omega] at h2
    show r.getD j 0 * _ ≤ _
    omega
/-- the last number is above 0 -/
structure Top (p : List Int) : Prop where
  ne : 1 ≤ p.length
  nn : Nn p
  top : 0 < p.getD (p.length - 1) 0
theorem top_times {xs ys : List Int} (hx : Top xs) (hy : Top ys) : Top (timesP xs ys) := by
  have a := hx.ne
  have b := hy.ne
  refine ⟨by rw [timesP_len]; omega, timesP_nn hx.nn hy.nn, ?_⟩
  have d0 : ∀ (k i : Nat), (0 : Int) ≤ (if i = k then 1 else 0) := fun k i => by split <;> decide
  rw [timesP_len, getD_P0, P0_times _ a b]
  have h1 := pr_ge (φ := fun k => pr (fun j => if j = xs.length + ys.length - 1 - 1 then (1 : Int) else 0) ys k) (fun i => pr_nn (d0 _) hy.nn i) hx.nn 0 (xs.length - 1)
  have h2 := pr_ge (d0 (xs.length + ys.length - 1 - 1)) hy.nn (0 + (xs.length - 1)) (ys.length - 1)
  rw [if_pos (by omega), Int.mul_one] at h2
  have h3 := Int.mul_le_mul_of_nonneg_left h2 (show 0 ≤ xs.getD (xs.length - 1) 0 from Int.le_of_lt hx.top)
  have h4 := Int.mul_pos hx.top hy.top
  unfold P0
  omega
theorem getD_plus (xs ys : List Int) (k : Nat) : (plusP xs ys).getD k 0 = xs.getD k 0 + ys.getD k 0 := by rw [getD_P0, P0_plus, ← getD_P0, ← getD_P0]
theorem top_plusL {xs ys : List Int} (hx : Top xs) (hy : Nn ys) (h : ys.length ≤ xs.length) : Top (plusP xs ys) := by
  have a := hx.ne
  refine ⟨by rw [plusP_len]; omega, plusP_nn hx.nn hy, ?_⟩
  have := getD_nn hy (xs.length - 1)
  have := hx.top
  rw [plusP_len, Nat.max_eq_left h, getD_plus]
  omega
theorem top_plusR {xs ys : List Int} (hx : Nn xs) (hy : Top ys) (h : xs.length ≤ ys.length) : Top (plusP xs ys) := by
  have a := hy.ne
  refine ⟨by rw [plusP_len]; omega, plusP_nn hx hy.nn, ?_⟩
  have := getD_nn hx (ys.length - 1)
  have := hy.top
  rw [plusP_len, Nat.max_eq_right h, getD_plus]
  omega
theorem top_scale {p : List Int} {c : Int} (h : Top p) (hc : 1 ≤ c) : Top (p.map fun x => x * c) := by
  refine ⟨by rw [List.length_map]; exact h.ne, fun y hy => ?_, ?_⟩
  · obtain ⟨x, hx, rfl⟩ := List.mem_map.mp hy
    exact Int.mul_nonneg (h.nn x hx) (by omega)
  · rw [List.length_map, getD_P0]
    unfold P0
    rw [pr_scale]
    have h1 := h.top
    rw [getD_P0] at h1
    exact Int.mul_pos h1 (by omega)
theorem top_foldl : ∀ {ss : List (List Int)} {m : List Int}, Top m → (∀ p ∈ ss, Top p) → Top (ss.foldl timesP m)
  | [], _, h, _ => h
  | s :: r, _, h, hs => by
    rw [List.foldl_cons]
    exact top_foldl (top_times h (hs s List.mem_cons_self)) fun p hp => hs p (List.mem_cons_of_mem _ hp)
theorem oneU_top {c : Int} : ∀ {ts : List Int} {us : List (List Int)} {m : List Int}, Top m → (∀ t ∈ ts, 1 ≤ c / t) → (∀ u ∈ us, Top u) → Top (oneU c ts us m)
  | [], _, m, h, _, _ => by unfold oneU; exact h
  | _ :: _, [], m, h, _, _ => by unfold oneU; exact h
  | t :: ts, u :: us, m, h, ht, hu => by
    rw [oneU]
    have h1 := top_scale (hu u List.mem_cons_self) (ht t List.mem_cons_self)
    refine oneU_top ?_ (fun x hx => ht x (List.mem_cons_of_mem _ hx)) fun x hx => hu x (List.mem_cons_of_mem _ hx)
    by_cases hle : (u.map fun x => x * (c / t)).length ≤ m.length
    · exact top_plusL h h1.nn hle
    · exact top_plusR h.nn h1 (by omega)
theorem oneU_top0 {c : Int} {ts : List Int} {us : List (List Int)} (hl : ts.length = us.length) (hne : us ≠ []) (ht : ∀ t ∈ ts, 1 ≤ c / t) (hu : ∀ u ∈ us, Top u) : Top (oneU c ts us [0]) := by
  cases us with
  | nil => exact absurd rfl hne
  | cons u us =>
   cases ts with
   | nil => simp at hl
   | cons t ts =>
    rw [oneU]
    have h1 := top_scale (hu u List.mem_cons_self) (ht t List.mem_cons_self)
    exact oneU_top (top_plusR (fun x hx => by rw [List.mem_singleton.mp hx]; decide) h1 h1.ne) (fun x hx => ht x (List.mem_cons_of_mem _ hx)) fun x hx => hu x (List.mem_cons_of_mem _ hx)
theorem quot_pos {ts : List Int} (h : ∀ t ∈ ts, 1 ≤ t) : ∀ t ∈ ts, 1 ≤ prodI ts / t := fun t ht => by
  have h1 := h t ht
  have h2 := prodI_mem h t ht
  have := Int.ediv_le_ediv (show 0 < t by omega) h2
  rwa [Int.ediv_self (by omega)] at this
theorem top_hangs {ss us : List (List Int)} (hl : ss.length = us.length) (hne : ss ≠ []) (hs : ∀ p ∈ ss, Pz p ∧ Top p) (hu : ∀ p ∈ us, Pz p ∧ Top p) : Top (hangs ss us).1 ∧ Top (hangs ss us).2 := by
  have p1 : ∀ t ∈ ss.map List.sum, 1 ≤ t := fun t ht => by
    obtain ⟨p, hp, rfl⟩ := List.mem_map.mp ht
    exact (hs p hp).1.pos
  have hp := hangs_pz hl hne (fun p hp => (hs p hp).1) (fun p hp => (hu p hp).1)
  have e2 : (hangs ss us).2 = plusP (oneU (prodI (ss.map List.sum)) (ss.map List.sum) us [0]) [prodI (List.zipWith (fun s u => s.sum + u.sum) ss us) - (timesAll ss).sum - (oneU (prodI (ss.map List.sum)) (ss.map List.sum) us [0]).sum] := rfl
  have hne' : us ≠ [] := fun z => hne (List.eq_nil_of_length_eq_zero (by rw [hl, z]; rfl))
  have ho := oneU_top0 (c := prodI (ss.map List.sum)) (ts := ss.map List.sum) (us := us) (by simpa using hl) hne' (quot_pos p1) fun u h => (hu u h).2
  refine ⟨top_foldl ⟨by decide, fun x hx => by rw [List.mem_singleton.mp hx]; decide, by decide⟩ fun p h => (hs p h).2, ?_⟩
  refine ⟨hp.2.1.ne, hp.2.1.nn, ?_⟩
  have a := ho.ne
  have b := ho.top
  have ew : List.zipWith (fun (s u : List Int) => s.sum + u.sum) ss us = List.zipWith (fun s u => s + u) (ss.map List.sum) (us.map List.sum) := by rw [List.zipWith_map]
  have p2 : ∀ t ∈ us.map List.sum, 1 ≤ t := fun t ht => by
    obtain ⟨p, hp, rfl⟩ := List.mem_map.mp ht
    exact (hu p hp).1.pos
  have w1 := whole_ge (ss := ss.map List.sum) (us := us.map List.sum) (by simpa using hl) p1 p2
  have o1 : (oneU (prodI (ss.map List.sum)) (ss.map List.sum) us [0]).sum = one1 (ss.map List.sum) (us.map List.sum) := by
    rw [← P0_one, oneU_P0 _ _ _ _ _ (by simpa using hl)]
    have e : us.map (P0 fun _ => 1) = us.map List.sum := List.map_congr_left fun p _ => P0_one p
    rw [e, sdiv_one1 _ _ p1]
    show (0 : Int) * 1 + 0 + _ = _
    omega
  have t1 := timesAll_sum fun p hp => (hs p hp).1
  rw [← ew] at w1
  rw [e2]
  refine (top_plusL (ys := [_]) ho (fun x hx => ?_) a).top
  rw [List.mem_singleton.mp hx]
  omega
mutual
theorem top_hung : ∀ t : T, t.form = true → Top t.hung.1 ∧ Top t.hung.2
  | .lev z, _ => by
    rw [T.hung]
    have p : Top [0, 1] := ⟨by decide, fun x hx => by simp at hx; omega, by decide⟩
    exact ⟨p, p⟩
  | .knot w ps, hf => by
    rw [T.form, Bool.and_eq_true, Bool.and_eq_true, decide_eq_true_eq, decide_eq_true_eq] at hf
    have hp := hbs w ps hf.2
    have ht := top_hungs w ps hf.2
    have hne : ps ≠ [] := fun z => by rw [z] at hf; exact absurd hf.1.1 (by decide)
    have hd : ∀ p ∈ ps.map (fun t => t.hung.1), Pz p ∧ Top p := fun p h => by
      obtain ⟨x, hx, rfl⟩ := List.mem_map.mp h
      exact ⟨(hp x hx).dark, (ht x hx).1⟩
    have hb : ∀ p ∈ ps.map (fun t => t.hung.2), Pz p ∧ Top p := fun p h => by
      obtain ⟨x, hx, rfl⟩ := List.mem_map.mp h
      exact ⟨(hp x hx).burn, (ht x hx).2⟩
    rw [T.hung, burns_map, darks_map]
    cases w with
    | true =>
      obtain ⟨a, b⟩ := top_hangs (by simp) (by simpa using hne) hb hd
      exact ⟨b, a⟩
    | false => exact top_hangs (by simp) (by simpa using hne) hd hb
theorem top_hungs : ∀ (w : Bool) (ps : List T), T.forms w ps = true → ∀ t ∈ ps, Top t.hung.1 ∧ Top t.hung.2
  | _, [], _, t, m => nomatch m
  | w, p :: r, h, t, m => by
    rw [T.forms, Bool.and_eq_true, Bool.and_eq_true] at h
    rcases List.mem_cons.mp m with e | m
    · rw [e]; exact top_hung p h.1.1
    · exact top_hungs w r h.2 t m
end
/-- a row that is p place by place, made bare, is p -/
theorem bare_of {ns p : List Int} (ht : Top p) (hl : p.length ≤ ns.length) (h : ∀ k, ns.getD k 0 = p.getD k 0) : LastAt ns (p.length - 1) ∧ ns.take (p.length - 1 + 1) = p := by
  have a := ht.ne
  have g : ∀ {k : Nat}, k < ns.length → ns[k]? = some (p.getD k 0) := fun {k} hk => by
    have := h k
    rw [List.getD_eq_getElem?_getD, List.getElem?_eq_getElem hk] at this
    rw [List.getElem?_eq_getElem hk, ← this]
    rfl
  refine ⟨⟨⟨_, g (by omega), ht.top⟩, fun j y hj hy => ?_⟩, ?_⟩
  · have hjl := (List.getElem?_eq_some_iff.mp hy).1
    rw [g hjl] at hy
    have : y = p.getD j 0 := (Option.some.inj hy).symm
    rw [this, List.getD_eq_getElem?_getD, List.getElem?_eq_none_iff.mpr (by omega)]
    exact Int.le_refl _
  · refine List.ext_getElem? fun j => ?_
    rw [List.getElem?_take]
    by_cases hj : j < p.length
    · rw [if_pos (by omega), g (by omega), List.getD_eq_getElem?_getD, List.getElem?_eq_getElem hj]
      rfl
    · rw [if_neg (by omega), List.getElem?_eq_none_iff.mpr (by omega)]
end Dl

set_option Elab.async false
set_option maxRecDepth 100000
set_option linter.all false
/-! hc counts the settings, burning or dark, in which a lever hangs -/
namespace Dl
def HcT (t : T) : Prop := ∀ z ∈ t.levs, ∀ (b : Bool) (a : Nat → Bool), sm t.levs (fun a => if (t.lit a == b) && hangs1 t a z then 1 else 0) a = t.hc z
theorem kept_sel (w : Bool) (t : T) : (sel w t).sum = kept w t := by
  unfold sel kept cnt
  cases w <;> rfl
theorem hang_here {w : Bool} {t : T} {r : List T} {z : Nat} (hr : z ∉ T.levss r) (a : Nat → Bool) : (okAll w (t :: r) (flipA a z) != okAll w (t :: r) a) = (okAll w r a && hangs1 t a z) := by
  rw [okAll_cons, okAll_cons, flip_up, okAll_blind hr, ← flip_up]
  unfold hangs1
  rw [← bne_beq (t.lit (flipA a z)) (t.lit a) w]
  cases okAll w r a <;> cases (t.lit (flipA a z) == w) <;> cases (t.lit a == w) <;> rfl
theorem hang_there {w : Bool} {t : T} {r : List T} {z : Nat} (ht : z ∉ t.levs) (a : Nat → Bool) : (okAll w (t :: r) (flipA a z) != okAll w (t :: r) a) = ((t.lit a == w) && (okAll w r (flipA a z) != okAll w r a)) := by
  rw [okAll_cons, okAll_cons, flip_up, lit_blind ht, ← flip_up]
  cases (t.lit a == w) <;> cases okAll w r (flipA a z) <;> cases okAll w r a <;> rfl
theorem count_hcs {w : Bool} {z : Nat} : ∀ {ps : List T}, (T.levss ps).Nodup → (∀ t ∈ ps, (Counts t ∧ HB t) ∧ HcT t) → z ∈ T.levss ps → ∀ (c : Bool) (a : Nat → Bool),
    sm (T.levss ps) (fun a => if (okAll w ps a == c) && (okAll w ps (flipA a z) != okAll w ps a) then 1 else 0) a = T.hcs z w ps
  | [], _, _, hz, _, _ => by rw [T.levss] at hz; exact nomatch hz
  | t :: r, nd, h, hz, c, a => by
    rw [T.levss, List.nodup_append] at nd
    obtain ⟨⟨ht, hbt⟩, hct⟩ := h t List.mem_cons_self
    have hr : ∀ t ∈ r, (Counts t ∧ HB t) ∧ HcT t := fun x hx => h x (List.mem_cons_of_mem _ hx)
    rw [T.levss] at hz
    have hP : ∀ a, sm (T.levss r) (fun a => if okAll w r a then 1 else 0) a = prodI (r.map (kept w)) := fun a => by
      rw [count_ok nd.2.1 (fun x hx => (hr x hx).1)]
      congr 1
      exact List.map_congr_left fun x _ => kept_sel w x
    rw [T.levss, sm_append, T.hcs]
    by_cases hzt : z ∈ t.levs
    · have hzr : z ∉ T.levss r := fun m => nd.2.2 z hzt z m rfl
      rw [hcs_zero (hcs_part hzr), Int.mul_zero, Int.add_zero]
      have bl : Blind (fun a => (if (t.lit a == (w == c)) && hangs1 t a z then 1 else 0 : Int)) (T.levss r) := fun l hl a b => by
        have : l ∉ t.levs := fun m => nd.2.2 l m l hl rfl
        show (if (t.lit (upA a l b) == (w == c)) && hangs1 t (upA a l b) z then 1 else 0 : Int) = _
        rw [lit_blind this, hangs1_blind this hzt]
      have inner : ∀ a, sm (T.levss r) (fun a => if (okAll w (t :: r) a == c) && (okAll w (t :: r) (flipA a z) != okAll w (t :: r) a) then 1 else 0) a = prodI (r.map (kept w)) * (if (t.lit a == (w == c)) && hangs1 t a z then 1 else 0) := fun a => by
        have e1 : sm (T.levss r) (fun a => if (okAll w (t :: r) a == c) && (okAll w (t :: r) (flipA a z) != okAll w (t :: r) a) then 1 else 0) a =
            sm (T.levss r) (fun a => (if (t.lit a == (w == c)) && hangs1 t a z then 1 else 0) * (if okAll w r a then 1 else 0)) a := sm_congr (fun a => by
          rw [hang_here hzr, okAll_cons]
          cases t.lit a <;> cases w <;> cases c <;> cases okAll _ r a <;> cases hangs1 t a z <;> rfl) _ _
        rw [e1, sm_factor bl, hP, Int.mul_comm]
      rw [sm_congr inner, sm_mulL, hct z hzt (w == c) a, Int.mul_comm]
    · have hzr : z ∈ T.levss r := (List.mem_append.mp hz).resolve_left hzt
      rw [hc_zero hzt, Int.zero_mul, Int.zero_add]
      have bl : Blind (fun a => (if t.lit a == w then 1 else 0 : Int)) (T.levss r) := fun l hl a b => by
        have : l ∉ t.levs := fun m => nd.2.2 l m l hl rfl
        show (if t.lit (upA a l b) == w then 1 else 0 : Int) = _
        rw [lit_blind this]
      have inner : ∀ a, sm (T.levss r) (fun a => if (okAll w (t :: r) a == c) && (okAll w (t :: r) (flipA a z) != okAll w (t :: r) a) then 1 else 0) a = T.hcs z w r * (if t.lit a == w then 1 else 0) := fun a => by
        have e1 : sm (T.levss r) (fun a => if (okAll w (t :: r) a == c) && (okAll w (t :: r) (flipA a z) != okAll w (t :: r) a) then 1 else 0) a =
            sm (T.levss r) (fun a => (if t.lit a == w then 1 else 0) * (if (okAll w r a == c) && (okAll w r (flipA a z) != okAll w r a) then 1 else 0)) a := sm_congr (fun a => by
          rw [hang_there hzt, okAll_cons]
          cases (t.lit a == w) <;> cases okAll w r a <;> cases c <;> cases okAll w r (flipA a z) <;> rfl) _ _
        rw [e1, sm_factor bl, count_hcs nd.2.1 hr hzr c a, Int.mul_comm]
      have cw := ht w (fun _ => 1) a
      rw [P0_1, kept_sel] at cw
      rw [sm_congr inner, sm_mulL, cw, Int.mul_comm]
mutual
theorem hcT : ∀ t : T, t.form = true → t.levs.Nodup → HcT t
  | .lev y, _, _ => fun z hz b a => by
    rw [T.levs] at hz
    obtain rfl := List.mem_singleton.mp hz
    have l : ∀ a : Nat → Bool, (T.lev z).lit a = a z := fun a => by rw [T.lit]
    have hh : ∀ a, hangs1 (.lev z) a z = true := fun a => by
      unfold hangs1
      rw [l, l]
      unfold flipA
      rw [if_pos rfl]
      cases a z <;> rfl
    have u : ∀ c, upA a z c z = c := fun c => if_pos rfl
    rw [T.levs, T.hc, if_pos rfl]
    show (if ((T.lev z).lit (upA a z false) == b) && hangs1 (.lev z) (upA a z false) z then 1 else 0 : Int) + (if ((T.lev z).lit (upA a z true) == b) && hangs1 (.lev z) (upA a z true) z then 1 else 0) = 1
    rw [hh, hh, l, l, u, u]
    cases b <;> rfl
  | .knot w ps, hf, nd => fun z hz b a => by
    have hf' := hf
    rw [T.form, Bool.and_eq_true] at hf'
    rw [T.levs] at nd hz
    rw [T.levs, T.hc, ← count_hcs nd (hcTs w ps hf'.2 nd) hz (b == w) a]
    refine sm_congr (fun a => ?_) _ _
    unfold hangs1
    rw [lit_ok, lit_ok, bne_beq]
    cases okAll w ps a <;> cases w <;> cases b <;> rfl
theorem hcTs : ∀ (w : Bool) (ps : List T), T.forms w ps = true → (T.levss ps).Nodup → ∀ t ∈ ps, (Counts t ∧ HB t) ∧ HcT t
  | _, [], _, _, t, m => nomatch m
  | w, p :: r, h, nd, t, m => by
    rw [T.forms, Bool.and_eq_true, Bool.and_eq_true] at h
    rw [T.levss, List.nodup_append] at nd
    rcases List.mem_cons.mp m with e | m
    · rw [e]; exact ⟨⟨counts p h.1.1 nd.1, hb p h.1.1⟩, hcT p h.1.1 nd.1⟩
    · exact hcTs w r h.2 nd.2.1 t m
end
end Dl

set_option Elab.async false
set_option maxRecDepth 100000
set_option linter.all false
/-! the levers' list by trying -/
namespace Dl
theorem getD_addAt {l : List Int} {k : Nat} (x : Int) (hk : k < l.length) (z : Nat) : (addAt l k x).getD z 0 = l.getD z 0 + (if z = k then x else 0) := by
  unfold addAt
  rw [List.getD_eq_getElem?_getD, List.getD_eq_getElem?_getD, get_modify]
  by_cases e : z = k
  · subst e
    rw [if_pos rfl, List.getElem?_eq_getElem hk, Option.map_some, if_pos rfl]
    rfl
  · rw [if_neg e, Int.add_zero]
    cases l[z]? with
    | none => rfl
    | some y => rw [Option.map_some, if_neg e]
theorem getD_fold (x : Int) (z : Nat) : ∀ (h : List Nat) (l : List Int), h.Nodup → (∀ k ∈ h, k < l.length) → (h.foldl (fun l k => addAt l k x) l).getD z 0 = l.getD z 0 + (if z ∈ h then x else 0)
  | [], l, _, _ => by simp
  | k :: r, l, nd, hl => by
    obtain ⟨n1, n2⟩ := List.nodup_cons.mp nd
    rw [List.foldl_cons, getD_fold x z r _ n2 (fun y hy => by rw [addAt_len]; exact hl y (List.mem_cons_of_mem _ hy)), getD_addAt x (hl k List.mem_cons_self)]
    by_cases e : z = k
    · subst e
      rw [if_pos rfl, if_neg n1, if_pos List.mem_cons_self, Int.add_zero]
    · rw [if_neg e, Int.add_zero]
      by_cases m : z ∈ r
      · rw [if_pos m, if_pos (List.mem_cons_of_mem _ m)]
      · rw [if_neg m, if_neg (fun q => (List.mem_cons.mp q).elim e m)]
theorem mem_hungL {t : T} {a : Nat → Bool} {n z : Nat} (hz : z < n) : z ∈ hungL t a n ↔ hangs1 t a z = true := by
  unfold hungL hangs1
  rw [List.mem_filter]
  constructor
  · rintro ⟨_, h⟩
    revert h
    cases t.lit (flipA a z) <;> cases t.lit a <;> decide
  · intro h
    refine ⟨List.mem_range.mpr hz, ?_⟩
    revert h
    cases t.lit (flipA a z) <;> cases t.lit a <;> decide
theorem fold_lev (t : T) (n z : Nat) (hz : z < n) : ∀ (l : List (List Int)) (c : List Int × List Int × List Int), c.2.2.length = n →
    (l.foldl (lstep t n) c).2.2.getD z 0 = c.2.2.getD z 0 + (l.map fun xs => if (t.lit (asg xs) == true) && hangs1 t (asg xs) z then 1 else 0).sum
  | [], c, _ => by simp
  | xs :: r, c, hc => by
    have l1 : (lstep t n c xs).2.2.length = n := (fold_len _ _ _).trans hc
    have a1 : (lstep t n c xs).2.2.getD z 0 = c.2.2.getD z 0 + (if (t.lit (asg xs) == true) && hangs1 t (asg xs) z then 1 else 0) := by
      show ((hungL t (asg xs) n).foldl (fun l k => addAt l k (b2i (t.lit (asg xs)))) c.2.2).getD z 0 = _
      have ndh : (hungL t (asg xs) n).Nodup := List.nodup_range.filter _
      rw [getD_fold _ z _ _ ndh (fun k hk => by rw [hc]; exact hungL_lt hk)]
      congr 1
      have hm := mem_hungL (t := t) (a := asg xs) hz
      cases h2 : hangs1 t (asg xs) z with
      | true =>
        rw [if_pos (hm.mpr h2)]
        cases t.lit (asg xs) <;> rfl
      | false =>
        rw [if_neg fun q => by rw [hm.mp q] at h2; cases h2]
        cases t.lit (asg xs) <;> rfl
    rw [List.foldl_cons, List.map_cons, List.sum_cons, fold_lev t n z hz r _ l1, a1]
    omega
/-- the levers' list by trying is hc, lever by lever -/
theorem listed_lev {t : T} {n : Nat} (hf : t.form = true) (p : t.levs.Perm (List.range n)) : (listed t n (allS n).length).2.2 = (List.range n).map fun z => t.hc z := by
  have nd : t.levs.Nodup := p.nodup_iff.mpr List.nodup_range
  have hlen := (listed_len t n (allS n).length).2.2
  refine List.ext_getElem? fun z => ?_
  by_cases hz : z < n
  · have e := all_sm n (fun a => if (t.lit a == true) && hangs1 t a z then 1 else 0)
    have hm : z ∈ t.levs := p.mem_iff.mpr (List.mem_range.mpr hz)
    rw [← sm_perm _ p nd, hcT t hf nd z hm true] at e
    have f := fold_lev t n z hz (allS n) (List.replicate (n + 1) 0, List.replicate (n + 1) 0, List.replicate n 0) (by simp)
    have g : (listed t n (allS n).length).2.2.getD z 0 = t.hc z := by
      unfold listed
      rw [List.take_length, f, e]
      show (List.replicate n (0 : Int)).getD z 0 + _ = _
      rw [List.getD_eq_getElem?_getD, List.getElem?_replicate, if_pos hz]
      exact Int.zero_add _
    rw [List.getD_eq_getElem?_getD, List.getElem?_eq_getElem (by rw [hlen]; exact hz)] at g
    rw [List.getElem?_eq_getElem (by rw [hlen]; exact hz), List.getElem?_map, List.getElem?_range hz]
    exact congrArg some g
  · rw [List.getElem?_eq_none_iff.mpr (by rw [hlen]; omega), List.getElem?_eq_none_iff.mpr (by rw [List.length_map, List.length_range]; omega)]
end Dl

set_option Elab.async false
set_option maxRecDepth 100000
set_option maxHeartbeats 2000000
set_option linter.all false
/-! dealing levers into lots; the tree that comes of lots -/
namespace Dl
open PySem L2 Evl Dt
def zi (zs : List Nat) : List Int := zs.map fun (z : Nat) => (z : Int)
mutual
theorem low_levs : ∀ (t : T), t.form = true → (∃ z ∈ t.levs, t.low = (z : Int)) ∧ ∀ z ∈ t.levs, t.low ≤ (z : Int)
  | .lev z, _ => by
    rw [T.levs, T.low]
    exact ⟨⟨z, List.mem_singleton_self z, rfl⟩, fun y hy => by rw [List.mem_singleton.mp hy]; exact Int.le_refl _⟩
  | .knot w ps, h => by
    rw [T.form, Bool.and_eq_true, Bool.and_eq_true, decide_eq_true_eq, decide_eq_true_eq] at h
    rw [T.levs, T.low]
    exact lows_levs w ps h.2 (fun e => by rw [e] at h; exact absurd h.1.1 (by decide))
theorem lows_levs : ∀ (w : Bool) (ps : List T), T.forms w ps = true → ps ≠ [] → (∃ z ∈ T.levss ps, T.lows ps = (z : Int)) ∧ ∀ z ∈ T.levss ps, T.lows ps ≤ (z : Int)
  | _, [], _, h => absurd rfl h
  | w, t :: r, h, _ => by
    rw [T.forms, Bool.and_eq_true, Bool.and_eq_true] at h
    obtain ⟨⟨z, hz, e⟩, h2⟩ := low_levs t h.1.1
    by_cases hr : r = []
    · subst hr
      rw [T.lows, T.levss, T.levss, List.append_nil]
      show (∃ z ∈ t.levs, t.low = (z : Int)) ∧ ∀ z ∈ t.levs, t.low ≤ (z : Int)
      exact ⟨⟨z, hz, e⟩, h2⟩
    · obtain ⟨⟨y, hy, e'⟩, h3⟩ := lows_levs w r h.2 hr
      have hr' : r.isEmpty = false := by cases r with
        | nil => exact absurd rfl hr
        | cons a b => rfl
      rw [T.lows, hr', T.levss]
      show (∃ z ∈ t.levs ++ T.levss r, min t.low (T.lows r) = (z : Int)) ∧ ∀ z ∈ t.levs ++ T.levss r, min t.low (T.lows r) ≤ (z : Int)
      refine ⟨?_, fun x hx => ?_⟩
      · by_cases hc : t.low ≤ T.lows r
        · exact ⟨z, List.mem_append_left _ hz, by rw [Int.min_eq_left hc]; exact e⟩
        · exact ⟨y, List.mem_append_right _ hy, by rw [Int.min_eq_right (by omega)]; exact e'⟩
      · rcases List.mem_append.mp hx with hx | hx
        · exact Int.le_trans (Int.min_le_left _ _) (h2 x hx)
        · exact Int.le_trans (Int.min_le_right _ _) (h3 x hx)
end
mutual
theorem bounds : ∀ (t : T), t.form = true → t.height ≤ t.levs.length ∧ 1 ≤ t.levs.length ∧ t.size + 1 ≤ 2 * t.levs.length
  | .lev z, _ => by
    rw [T.levs, T.height, T.size]
    exact ⟨Nat.le_refl _, Nat.le_refl _, Nat.le_refl _⟩
  | .knot w ps, h => by
    rw [T.form, Bool.and_eq_true, Bool.and_eq_true, decide_eq_true_eq, decide_eq_true_eq] at h
    rw [T.levs, T.height, T.size]
    have := boundss w ps h.2
    omega
theorem boundss : ∀ (w : Bool) (ps : List T), T.forms w ps = true → T.heights ps + ps.length ≤ (T.levss ps).length + 1 ∧ ps.length ≤ (T.levss ps).length ∧ T.sizes ps + ps.length ≤ 2 * (T.levss ps).length
  | _, [], _ => by
    rw [T.heights, T.levss, T.sizes]
    exact ⟨Nat.le_succ _, Nat.le_refl _, Nat.le_refl _⟩
  | w, t :: r, h => by
    rw [T.forms, Bool.and_eq_true, Bool.and_eq_true] at h
    have a := bounds t h.1.1
    have b := boundss w r h.2
    rw [T.heights, T.levss, T.sizes, List.length_append, List.length_cons]
    omega
end
/-- t stands for the levers zs -/
structure Pt (t : T) (zs : List Nat) : Prop where
  form : t.form = true
  ord : t.ord = true
  perm : t.levs.Perm zs
theorem Pt.low {t : T} {zs : List Nat} (h : Pt t zs) (hs : zs.Pairwise (· < ·)) (hn : zs ≠ []) : t.low = ((zs.headD 0 : Nat) : Int) := by
  obtain ⟨a, r, rfl⟩ := List.exists_cons_of_ne_nil hn
  obtain ⟨⟨z, hz, e⟩, h2⟩ := low_levs t h.form
  have h3 := h2 a (h.perm.mem_iff.mpr List.mem_cons_self)
  have h4 := h.perm.mem_iff.mp hz
  show t.low = ((a : Nat) : Int)
  rcases List.mem_cons.mp h4 with h5 | h5
  · rw [e, h5]
  · have := (List.pairwise_cons.mp hs).1 z h5
    omega
theorem forms_of {w : Bool} : ∀ {ts : List T}, (∀ t ∈ ts, t.form = true ∧ t.hasWord w = false) → T.forms w ts = true
  | [], _ => by rw [T.forms]
  | t :: r, h => by
    obtain ⟨h1, h2⟩ := h t List.mem_cons_self
    rw [T.forms, h1, h2, forms_of fun u hu => h u (List.mem_cons_of_mem _ hu)]
    rfl
theorem ords_of : ∀ {ts : List T}, (∀ t ∈ ts, t.ord = true) → ts.Pairwise (fun a b => a.low < b.low) → T.ords ts = true
  | [], _, _ => by rw [T.ords]
  | t :: r, h, hp => by
    obtain ⟨h1, h2⟩ := List.pairwise_cons.mp hp
    rw [T.ords, h t List.mem_cons_self, ords_of (fun u hu => h u (List.mem_cons_of_mem _ hu)) h2]
    cases r with
    | nil => rfl
    | cons u r => show (true && decide (t.low < u.low) && true) = true; rw [decide_eq_true (h1 u List.mem_cons_self)]; rfl
theorem levss_perm : ∀ {ts : List T} {qs : List (List Nat)}, ts.length = qs.length → (∀ (i : Nat) t q, ts[i]? = some t → qs[i]? = some q → t.levs.Perm q) → (T.levss ts).Perm qs.flatten
  | [], [], _, _ => by rw [T.levss]; exact List.Perm.refl _
  | [], _ :: _, h, _ => nomatch h
  | _ :: _, [], h, _ => nomatch h
  | t :: ts, q :: qs, h, k => by
    rw [T.levss, List.flatten_cons]
    exact (k 0 t q rfl rfl).append (levss_perm (by simpa using h) fun i t' q' a b => k (i + 1) t' q' (by simpa using a) (by simpa using b))
theorem pt_knot {w : Bool} {ts : List T} {qs : List (List Nat)} {zs : List Nat} (hl : ts.length = qs.length) (h : ∀ (i : Nat) t q, ts[i]? = some t → qs[i]? = some q → Pt t q ∧ t.hasWord w = false) (h2 : 2 ≤ ts.length) (h3 : ts.length ≤ 200)
    (hp : qs.flatten.Perm zs) (hs : ∀ q ∈ qs, q.Pairwise (· < ·)) (hn : ∀ q ∈ qs, q ≠ []) (ho : qs.Pairwise fun p q => p.headD 0 < q.headD 0) : Pt (.knot w ts) zs := by
  have each : ∀ t ∈ ts, ∃ i q, ts[i]? = some t ∧ qs[i]? = some q ∧ Pt t q ∧ t.hasWord w = false := fun t ht => by
    obtain ⟨i, hi⟩ := List.mem_iff_getElem?.mp ht
    have hil := (List.getElem?_eq_some_iff.mp hi).1
    have hq : qs[i]? = some (qs[i]'(by omega)) := List.getElem?_eq_getElem _
    exact ⟨i, _, hi, hq, h i t _ hi hq⟩
  refine ⟨?_, ?_, ?_⟩
  · rw [T.form, forms_of fun t ht => by obtain ⟨i, q, _, _, a, b⟩ := each t ht; exact ⟨a.form, b⟩]
    rw [decide_eq_true h2, decide_eq_true h3]
    rfl
  · rw [T.ord]
    refine ords_of (fun t ht => by obtain ⟨i, q, _, _, a, b⟩ := each t ht; exact a.ord) ?_
    rw [List.pairwise_iff_getElem] at ho ⊢
    intro i j hi hj hij
    have a := (h i ts[i] (qs[i]'(by omega)) (List.getElem?_eq_getElem hi) (List.getElem?_eq_getElem _)).1
    have b := (h j ts[j] (qs[j]'(by omega)) (List.getElem?_eq_getElem hj) (List.getElem?_eq_getElem _)).1
    have m1 : qs[i]'(by omega) ∈ qs := List.getElem_mem _
    have m2 : qs[j]'(by omega) ∈ qs := List.getElem_mem _
    rw [a.low (hs _ m1) (hn _ m1), b.low (hs _ m2) (hn _ m2)]
    exact Int.ofNat_lt.mpr (ho i j (by omega) (by omega) hij)
  · rw [T.levs]
    exact (levss_perm hl fun i t q a b => (h i t q a b).1.perm).trans hp
/-! ### lots -/
structure Deal (zs : List Nat) (qs : List (List Nat)) : Prop where
  perm : qs.flatten.Perm zs
  asc : ∀ q ∈ qs, q.Pairwise (· < ·)
theorem flat_put (z : Nat) : ∀ {qs : List (List Nat)} {i : Nat}, i < qs.length → (qs.modify i (· ++ [z])).flatten.Perm (qs.flatten ++ [z])
  | [], _, h => absurd h (Nat.not_lt_zero _)
  | q :: qs, 0, _ => by
    rw [List.modify_zero_cons, List.flatten_cons, List.flatten_cons, List.append_assoc, List.append_assoc]
    exact List.Perm.append_left _ List.perm_append_comm
  | q :: qs, i + 1, h => by
    rw [List.modify_succ_cons, List.flatten_cons, List.flatten_cons, List.append_assoc]
    exact List.Perm.append_left _ (flat_put z (by simpa using h))
theorem Deal.put {zs : List Nat} {qs : List (List Nat)} {i z : Nat} (D : Deal zs qs) (hi : i < qs.length) (hz : ∀ y ∈ zs, y < z) : Deal (zs ++ [z]) (qs.modify i (· ++ [z])) := by
  refine ⟨(flat_put z hi).trans (D.perm.append (List.Perm.refl _)), fun q hq => ?_⟩
  obtain ⟨j, hj⟩ := List.mem_iff_getElem?.mp hq
  rw [get_modify] at hj
  obtain ⟨p, hp, rfl⟩ := Option.map_eq_some_iff.mp hj
  have hpm := List.mem_of_getElem? hp
  have hpa := D.asc p hpm
  split
  · rw [List.pairwise_append]
    exact ⟨hpa, List.pairwise_singleton _ _, fun x hx y hy => by
      rw [List.mem_singleton.mp hy]
      exact hz x (D.perm.mem_iff.mp (List.mem_flatten.mpr ⟨p, hpm, hx⟩))⟩
  · exact hpa
theorem two_of {α : Type} {f : α → Bool} : ∀ {l : List α} {i j : Nat} {x y : α}, l[i]? = some x → l[j]? = some y → i ≠ j → f x = true → f y = true → 2 ≤ (l.filter f).length
  | [], i, _, _, _, h, _, _, _, _ => by simp at h
  | a :: l, 0, 0, _, _, _, _, h, _, _ => absurd rfl h
  | a :: l, 0, j + 1, x, y, hi, hj, _, hx, hy => by
    simp at hi hj
    subst hi
    rw [List.filter_cons, if_pos hx, List.length_cons]
    have := List.length_pos_of_mem (List.mem_filter.mpr ⟨List.mem_of_getElem? hj, hy⟩)
    omega
  | a :: l, i + 1, 0, x, y, hi, hj, _, hx, hy => by
    simp at hi hj
    subst hj
    rw [List.filter_cons, if_pos hy, List.length_cons]
    have := List.length_pos_of_mem (List.mem_filter.mpr ⟨List.mem_of_getElem? hi, hx⟩)
    omega
  | a :: l, i + 1, j + 1, x, y, hi, hj, h, hx, hy => by
    simp at hi hj
    have := two_of hi hj (by omega) hx hy
    rw [List.filter_cons]
    split
    · rw [List.length_cons]; omega
    · exact this
theorem len_two {α : Type} : ∀ {l : List (List α)} {i j : Nat} {x y : List α}, l[i]? = some x → l[j]? = some y → i ≠ j → x.length + y.length ≤ l.flatten.length
  | [], i, _, _, _, h, _, _ => by simp at h
  | a :: l, 0, 0, _, _, _, _, h => absurd rfl h
  | a :: l, 0, j + 1, x, y, hi, hj, _ => by
    simp at hi hj
    subst hi
    rw [List.flatten_cons, List.length_append]
    have := len_one hj
    omega
  | a :: l, i + 1, 0, x, y, hi, hj, _ => by
    simp at hi hj
    subst hj
    rw [List.flatten_cons, List.length_append]
    have := len_one hi
    omega
  | a :: l, i + 1, j + 1, x, y, hi, hj, h => by
    simp at hi hj
    have := len_two hi hj (by omega)
    rw [List.flatten_cons, List.length_append]
    omega
where len_one {α : Type} : ∀ {l : List (List α)} {i : Nat} {x : List α}, l[i]? = some x → x.length ≤ l.flatten.length
  | [], i, _, h => by simp at h
  | a :: l, 0, x, h => by
    simp at h
    subst h
    rw [List.flatten_cons, List.length_append]
    omega
  | a :: l, i + 1, x, h => by
    simp at h
    have := len_one h
    rw [List.flatten_cons, List.length_append]
    omega
theorem flat_full {α : Type} : ∀ l : List (List α), (l.filter fun q => !q.isEmpty).flatten = l.flatten
  | [] => rfl
  | [] :: l => by
    have h := flat_full l
    rw [List.filter_cons]
    exact h
  | (a :: q) :: l => by
    have h := flat_full l
    rw [List.filter_cons]
    show ((a :: q) :: l.filter fun q => !q.isEmpty).flatten = _
    rw [List.flatten_cons, List.flatten_cons, h]
theorem heads_asc {qs : List (List Nat)} (hne : ∀ q ∈ qs, q ≠ []) (hn : qs.flatten.Nodup) (hle : qs.Pairwise fun p q => zi p ≤ zi q) : qs.Pairwise fun p q => p.headD 0 < q.headD 0 := by
  have h1 := (List.pairwise_flatten.mp hn).2
  rw [List.pairwise_iff_getElem] at h1 hle ⊢
  intro i j hi hj hij
  have a := h1 i j hi hj hij
  have b := hle i j hi hj hij
  have m1 : qs[i] ∈ qs := List.getElem_mem _
  have m2 : qs[j] ∈ qs := List.getElem_mem _
  obtain ⟨x, p, e1⟩ := List.exists_cons_of_ne_nil (hne _ m1)
  obtain ⟨y, q, e2⟩ := List.exists_cons_of_ne_nil (hne _ m2)
  rw [e1, e2] at a b ⊢
  have hxy := a x List.mem_cons_self y List.mem_cons_self
  have b' : ((x : Nat) : Int) :: zi p ≤ ((y : Nat) : Int) :: zi q := b
  rw [le_heads (by omega)] at b'
  show x < y
  omega
/-- the lots in their order -/
abbrev Lot := Addr × List Nat
def encL (p : Lot) : V × List Int := (.ref p.1, zi p.2)
theorem leL_total (a b : V × List Int) : (leL a b || leL b a) = true := by
  unfold leL
  rw [Bool.or_eq_true, decide_eq_true_eq, decide_eq_true_eq]
  exact List.le_total a.2 b.2
theorem leL_trans (a b c : V × List Int) (h1 : leL a b = true) (h2 : leL b c = true) : leL a c = true := by
  unfold leL at *
  rw [decide_eq_true_eq] at *
  exact List.le_trans h1 h2
theorem lots_sorted (ps : List Lot) : ∃ rs : List Lot, rs.Perm ps ∧ (ps.map encL).mergeSort leL = rs.map encL ∧ rs.Pairwise fun p q => zi p.2 ≤ zi q.2 := by
  refine ⟨ps.mergeSort fun p q => leL (encL p) (encL q), List.mergeSort_perm _ _, ?_, ?_⟩
  · exact (List.map_mergeSort (f := encL) (r := fun p q => leL (encL p) (encL q)) (s := leL) (fun a _ b _ => rfl)).symm
  · exact (List.pairwise_mergeSort (le := fun p q => leL (encL p) (encL q)) (fun a b c => leL_trans _ _ _) (fun a b => leL_total _ _) ps).imp fun h => of_decide_eq_true h
end Dl

set_option Elab.async false
set_option maxRecDepth 100000
set_option maxHeartbeats 4000000
set_option linter.all false
/-! an own class right under KeyError, whose __init__ keeps its one argument in a field -/
namespace Dk
open PySem PySem.W PySem.Calls PySem.HandSPX
/-- the classes above it -/
abbrev keUp : List Value := [.type "KeyError", .type "LookupError", .type "Exception", .type "BaseException", .type "object"]
theorem keUp_pass (v : Value) : refuseLoop v "__setattr__" keUp = pure () := by kernel_rfl
abbrev KeObj (nm q : Str) (C N : Addr) (bs : List Value) (sn : List Str) (sub : List Value) (ab : Bool) (col : Option Bool) (dd : Option Addr) (k0 k1 k2 k3 k5 : Option Value) : Obj :=
  excClassObj nm q C N bs keUp true sn sub ab col dd k0 k1 k2 k3 k5 "LookupError.__new__"
section
variable {M : Model} {prog : Program} {w : World} {A : Around} {E : Value → Shared → Prop} {R : Result → Shared → Prop} {h : Heap} {g : Array GenState} {d : Drawn} {t : Nat} {os : OsState}
variable {nm q : Str} {C N : Addr} {bs : List Value} {sn : List Str} {sub : List Value} {ab : Bool} {col : Option Bool} {dd : Option Addr} {k0 k1 k2 k3 k5 : Option Value} {rest : List Value}
theorem ke_has {X : String} {b : Bool} (e : keUp.contains (.type X) = b) : (Value.ref C :: keUp).contains (.type X) = b := by
  rw [List.contains_cons, e]
  rfl
theorem ke_check {Q : Unit → Shared → Prop} (o : h.get? C = some (KeObj nm q C N bs sn sub ab col dd k0 k1 k2 k3 k5)) (k : Q () ⟨h, g, d, t, os⟩) :
    wpAny M A (checkBuiltinCall "LookupError.__new__" ⟨.ref C :: rest, []⟩) Q E ⟨h, g, d, t, os⟩ := by
  have c := ke_has (C := C) (X := "LookupError") (b := true) (by decide +kernel)
  have f1 := F.excBase_LookupError.noStar
  have f2 := F.excBase_LookupError.newKind
  have f3 := F.excBase_LookupError.newSplit
  have f4 := F.excBase_LookupError.newRow
  simp only [checkBuiltinCall, f2, f3, f4]
  repeat (first | refine wpAny_loadPart_at o ?_ | (refine wpAny_isSubtype_exc o ?_; rw [c]) | refine wpAny_staticBase_exc o ?_ | refine wpAny_madeBy_exc o ?_ | simp only [bne_self_eq_false, Bool.false_eq_true, if_false] | wp_step)
  exact k
theorem ke_new (o : h.get? C = some (KeObj nm q C N bs sn sub ab col dd k0 k1 k2 k3 k5)) (z : rest.length ≤ sizeLine)
    (k : R (.ok (.ret (.ref (h.objs.size + 1)))) ⟨(h.push (kdv_tup rest)).push (excO C h.objs.size), g, d, t, os⟩) :
    codeAny (model prog w) A (.builtin "LookupError.__new__" ⟨.ref C :: rest, []⟩) R ⟨h, g, d, t, os⟩ := by
  have c1 := ke_has (C := C) (X := "LookupError") (b := true) (by decide +kernel)
  have c2 := ke_has (C := C) (X := "AttributeError") (b := false) (by decide +kernel)
  have c3 := ke_has (C := C) (X := "NameError") (b := false) (by decide +kernel)
  have f1 := F.excBase_LookupError.ends
  have f2 := F.excBase_LookupError.owner
  have f3 := F.excBase_LookupError.canon
  refine codeAny_builtinAt F.excBase_LookupError.entry ?_
  unfold Builtin.«BaseException.__new__»
  refine wpAt_bind ?_
  show wpAt _ _ _ (stack >>= _) _ _ _
  refine wpAt_bind (wpAt_stack fun p below => wpAt_of_wpAny ?_)
  wp_walk
  refine wpAt_of_wpAny ?_
  rw [f2]
  repeat (first | with_reducible refine wpAny_madeHere_exc f3 o ?_ | with_reducible refine wpAny_loadPart_at o ?_ | (with_reducible refine wpAny_isSubtype_exc o ?_; first | rw [c1] | rw [c2] | rw [c3]) | wp_step)
  show R _ _
  rw [Heap.size_push]
  exact k
theorem ke_type {fI : Addr} {Q : Fin → Shared → Prop} (o : h.get? C = some (KeObj nm q C N bs sn sub ab col dd k0 k1 k2 k3 k5)) (z : rest.length ≤ sizeLine)
    (i : Looks (model prog w) h (typeLookup (.ref C) "__init__") (some (.ref fI))) (b : ∀ v, Looks (model prog w) h (bindSpecial (.ref fI) v) (.ref fI, [v]))
    (k : codeAny (model prog w) A (.call (.ref fI) ⟨.ref (h.objs.size + 1) :: rest, []⟩)
      (fun r s' => match r with | .ok (.ret v) => v = .none ∧ Q (.done (.ret (.ref (h.objs.size + 1)))) s' | .ok _ => False | .error e => E e s') ⟨(h.push (kdv_tup rest)).push (excO C h.objs.size), g, d, t, os⟩) :
    wpAny (model prog w) A (Builtin.«type.__call__» ⟨.ref C :: rest, []⟩) Q E ⟨h, g, d, t, os⟩ := by
  repeat (first | with_reducible refine wpAny_loadPart_at o ?_ | with_reducible refine wpAny_madeBy_exc o ?_ | wp_step)
  refine codeAny_call_builtin_code (Code.quiet_builtin _ F.excBase_LookupError.quiet) (ke_check o ?_)
  refine ke_new o z ?_
  show wpAny _ _ _ _ _ _
  have up : ∀ a u, h.get? a = some u → ((h.push (kdv_tup rest)).push (excO C h.objs.size)).get? a = some u := fun a u e => Heap.get?_push_of_some _ (Heap.get?_push_of_some _ e)
  have o1 := up _ _ o
  have e1 : ((h.push (kdv_tup rest)).push (excO C h.objs.size)).get? (h.objs.size + 1) = some (excO C h.objs.size) := by heap_get
  have cc : (Value.ref C :: keUp).contains (.ref C) = true := by simp
  have i1 := i.keeps up
  have b1 := (b (.ref (h.objs.size + 1))).keeps up
  unfold isInstance
  repeat (first | with_reducible refine wpAny_loadPart_at e1 ?_ | (with_reducible refine wpAny_isSubtype_exc o1 ?_; rw [cc]) | wp_step)
  show wpAny _ _ (typeLookup (.ref C) _) _ _ _
  refine i1.at (wpAny_holding (wpAny_bind (b1.at (wpAny_bind (wpAny_call (codeAny_mono k fun r s' y => ?_))))))
  rcases r with e | (v | _ | _ | _) <;> first | exact y | exact y.elim | skip
  obtain ⟨rfl, y⟩ := y
  first
    | exact wpAny_pure (wpAny_pure y)
    | (wp_walk; exact y)
theorem ke_call {fI : Addr} (o : h.get? C = some (KeObj nm q C N bs sn sub ab col dd k0 k1 k2 k3 k5)) (z : rest.length ≤ sizeLine)
    (i : Looks (model prog w) h (typeLookup (.ref C) "__init__") (some (.ref fI))) (b : ∀ v, Looks (model prog w) h (bindSpecial (.ref fI) v) (.ref fI, [v]))
    (k : codeAny (model prog w) (A.under (.builtin "type.__call__" ⟨.ref C :: rest, []⟩)) (.call (.ref fI) ⟨.ref (h.objs.size + 1) :: rest, []⟩) (InitBack (h.objs.size + 1) R) ⟨(h.push (kdv_tup rest)).push (excO C h.objs.size), g, d, t, os⟩) :
    codeAny (model prog w) A (.call (.ref C) ⟨rest, []⟩) R ⟨h, g, d, t, os⟩ := by
  have f1 := tc_lookup
  have f2 := tc_bind (.ref C)
  have ty : (⟨h, g, d, t, os⟩ : Shared).TypeIs (.ref C) "type" := ⟨_, o, rfl⟩
  refine codeAny_of_tree ?_
  show wpAny _ _ (callAny (.ref C) _) _ _ _
  repeat (any_goals (first | assumption | with_reducible refine wpAny_loadPart_at o ?_ | wp_step))
  refine ⟨rfl, codeAny_call_builtin_at (Code.quiet_builtin _ (by decide +kernel)) entry_typeCall (wpAny_check_type_call_sub o (ke_type o z i b (codeAny_mono k fun r s' y => ?_)))⟩
  rcases r with e | (v | _ | _ | _) <;> exact y
end
section
variable {prog : Program} {w : World} {A : Around} {R : Result → Shared → Prop} {hp : Heap} {g : Array GenState} {d : Drawn} {t : Nat} {os : OsState}
theorem ke_put {M : Model} {E : Value → Shared → Prop} {dx : Addr} {n : Str} {tk : Tok} {v : Value} {Q : Fin → Shared → Prop} (e : hp.Ns dx (fun _ => none))
    (k : ∀ h' tk', h'.Ns1 dx (fun y => if y = n then some v else none) → Heap.SameBut dx hp h' → Q (.done (.ret .none)) ⟨h', g, d, tk', os⟩) :
    wpAny M A (Builtin.ObjectAttr.storeInDict dx (.str n tk) n v) Q E ⟨hp, g, d, t, os⟩ := store_in_new e k
/-- x.n = v on such an exception that has no dict yet -/
theorem ke_osa {K : Frag} {n : Str} {tk : Tok} {v : Value} {x C : Addr} {fv : Array Value} {cd : ClassData}
    (X : K.In hp) (hx : hp.get? x = some { cls := .ref C, data := .fields fv }) (hcd : clsIn K C = some cd) (hm : cd.mro = .ref C :: keUp) (hh : cd.hasDict = true) (ha : findIn K (.ref C) n = some none)
    (k : ∀ h' tk' dx, (∀ b o, b ≠ x → hp.get? b = some o → h'.get? b = some o) → hp.objs.size ≤ dx → dx ≠ x → h'.get? x = some { cls := .ref C, dict := some dx, data := .fields fv } →
      h'.Ns1 dx (fun y => if y = n then some v else none) → R (.ok (.ret .none)) ⟨h', g, d, tk', os⟩) :
    codeAny (model prog w) A (.call (.builtin "object.__setattr__") ⟨[.ref x, .str n tk, v], []⟩) R ⟨hp, g, d, t, os⟩ := by
  have I : InstAt hp x { cls := .ref C, data := .fields fv } C none := ⟨hx, rfl, rfl, trivial⟩
  have S := F.store_object
  have hob : cd.mro.contains (.type "object") = true := by rw [hm]; exact ke_has (by decide +kernel)
  have hne : cd.mro.isEmpty = false := by rw [hm]; rfl
  have hxs : x ≠ hp.objs.size := Nat.ne_of_lt (Heap.lt_size hx)
  have sb : Looks (model prog w) hp (isInstance (.ref x) (.type "object")) true := I.type.andThen (looks_mroIn X (by unfold mroIn; rw [hcd, Option.bind_some, if_neg (by rw [hne]; decide), hob]))
  refine codeAny_call_builtin S.slot.plain S.entry (@check_slot (model prog w) _ _ ⟨hp, g, d, t, os⟩ "object.__setattr__" "object" "__setattr__" (.ref x) [.str n tk, v] [] _ S.kind S.split sb (S.args (.ref x) (.str n tk) v) ?_)
  have l1 : Looks (model prog w) hp (mroOf (.ref C)) cd.mro := (looks_clsIn X hcd).andThen .now
  have l2 : Looks (model prog w) hp (Builtin.ObjectAttr.storeTaker? none) none := .now
  have l3 : Looks (model prog w) hp (classData C) cd := looks_clsIn X hcd
  rw [osa_eq, refuse_eq]
  refine wpAny_bind (wpAny_bind (I.type.at (wpAny_bind (l1.at ?_))))
  rw [hm, refuseLoop_ref, keUp_pass]
  refine wpAny_pure (wpAny_bind (I.type.at (wpAny_bind ((looks_findIn X ha).at (wpAny_bind (l2.at ?_))))))
  show wpAny _ _ (Builtin.ObjectAttr.storeInOwnDict (.ref x) (.ref C) (.str n tk) n v false) _ _ _
  obtain ⟨nm, bs, mro, ns, qn, hd, sn, sb', ab, col, del⟩ := cd
  dsimp only at hh
  subst hh
  unfold Builtin.ObjectAttr.storeInOwnDict Builtin.ObjectAttr.ownDictForStores
  repeat (first | with_reducible refine ke_put ?_ ?_ | with_reducible refine wpAny_loadPart_at hx ?_ | with_reducible refine l3.at ?_ | wp_step)
  · exact ⟨_, #[], _, (Heap.get?_update_ne _ _ _ _ hxs.symm).trans (Heap.get?_push_at rfl rfl), rfl, fun e he => absurd he (by simp), fun _ => rfl⟩
  · intro h' tk' hn' hs
    have hx1 : (hp.push { cls := .type "dict", data := .dict #[] }).get? x = some { cls := .ref C, data := .fields fv } := Heap.get?_push_of_some _ hx
    refine k h' tk' hp.objs.size (fun b o hb ho => ?_) (Nat.le_refl _) hxs.symm ?_ hn'
    · exact (hs.2 b (Nat.ne_of_lt (Heap.lt_size ho))).trans ((Heap.get?_update_ne _ _ _ _ hb).trans (Heap.get?_push_of_some _ ho))
    · exact (hs.2 x hxs).trans (Heap.get?_update_self _ hx1 rfl)
end
end Dk
namespace Dk
open PySem PySem.W PySem.Calls PySem.HandSPX PyProof.Rows
/-! ### its __init__: self.lever = lever -/
def iArgs (p1 p2 : Pos) : Arguments := { posonlyargs := [], args := [{ arg := "self", annotation := none, pos := p1 }, { arg := "lever", annotation := none, pos := p2 }], vararg := none, kwonlyargs := [], kw_defaults := [], kwarg := none, defaults := [] }
def iBody (q1 q2 q3 q4 : Pos) : List Stmt := [.Assign [.Attribute (.Name "self" q1) "lever" q2] (.Name "lever" q3) q4]
def iScope : Scope := { kind := .function, names := [(PySem.Str.ofString "self", .local), (PySem.Str.ofString "lever", .local)], isGenerator := false, isCoroutine := false, more := [] }
/-- what the written part says of NoLever, at C, and of its __init__, at fI -/
structure NoL (K : Frag) (mg : Str → Option Value) (C fI : Addr) : Prop where
  gC : mg "NoLever" = some (.ref C)
  cls : ∃ nm q N bs sn sub ab col dd k0 k1 k2 k3 k5, K.lookup C = some (KeObj nm q C N bs sn sub ab col dd k0 k1 k2 k3 k5)
  sa : findIn K (.ref C) "__setattr__" = some (some (.builtin "object.__setattr__"))
  ga : findIn K (.ref C) "__getattribute__" = some (some (.builtin "BaseException.__getattribute__"))
  gg : findIn K (.ref C) "__getattr__" = some none
  gc : findIn K (.ref C) "__class__" = some (some (.builtin "object.__class__"))
  noN : findIn K (.ref C) "lever" = some none
  iC : findIn K (.ref C) "__init__" = some (some (.ref fI))
  tI : typeIn K (.ref fI) = some (.type "function")
  kC : keepIn K (.ref C) = true
  exC : subIn K (.ref C) (.type "BaseException") = some true
  tyC : typeIn K (.ref C) = some (.type "type")
  hdC : hasDictIn K C = true
  isC : isClsIn K C = true
  self : subIn K (.ref C) (.ref C) = some true
  spG : specialIn K (.builtin "object.__class__") "__get__" = some (some (.builtin "getset_descriptor.__get__"))
  tkG : takesIn K (.builtin "object.__class__") = some true
  obj : mroIn K C (.type "object") = some true
  key : kitOne K (.ref C) (.type "KeyError") = some true
  fn : ∃ (oc : Value) (od : Option Addr) (doc pm : Value) (an : Option Addr) (cdv ct : Value) (osl : Array (Option Value)) (p1 p2 q1 q2 q3 q4 : Pos),
    K.lookup fI = some ⟨oc, od, .func (fnOf "__init__" "NoLever.__init__" (iArgs p1 p2) (iBody q1 q2 q3 q4) iScope .none .none doc pm an cdv ct), osl⟩ ∧ codeIn K cdv "NoLever.__init__" = true
theorem ld_slot {M : Model} {s : Shared} {name : Str} {scope : Scope} {L a : Addr} {cd : Value} {m : Str → Option Value} {x : Str} {pos : Pos} {v : Value} {Q : Value → Shared → Prop} {A : Around} {E : Value → Shared → Prop} (n : s.heap.Ns L m) (e : m x = some v) (k : Q v s)
    (h1 : scope.kind = .function := by rfl) (h2 : (envOfC name scope L a cd).kindOf x = some .local := by rfl) (h3 : (x == ("__debug__" : Str)) = false := by decide) : wpAny M A (eval (.Name x pos) (envOfC name scope L a cd)) Q E s :=
  wpAny_Name (wpAny_loadName_local h1 h2 n e k) h3
/-- what its making leaves: e the exception, d its own dict -/
structure Made (h h' : Heap) (e C d : Addr) (v : Value) : Prop where
  keep : ∀ b o, h.get? b = some o → h'.get? b = some o
  new : h.objs.size ≤ e
  obj : ∃ oe vs, h'.get? e = some oe ∧ oe.cls = .ref C ∧ oe.dict = some d ∧ oe.data = .fields vs ∧ vs[1]? = some .none
  big : h.objs.size ≤ d
  ne : d ≠ e
  ns : h'.Ns1 d (fun y => if y = "lever" then some v else none)
section
variable {prog : Program} {w : World} {A : Around} {E : Value → Shared → Prop} {R : Result → Shared → Prop} {s : Shared} {K : Frag} {mg : Str → Option Value} {C fI : Addr}
theorem nol_init (T : NoL K mg C fI) {x t0 : Addr} {v : Value} (X : K.In s.heap) (lim : s.heap.NoLimit) (hx : s.heap.get? x = some (excO C t0)) (room : A.depth < recursionLimit)
    (k : ∀ h' tk dx, (∀ b o, b ≠ x → s.heap.get? b = some o → h'.get? b = some o) → h'.get? x = some { cls := .ref C, dict := some dx, data := .fields #[.ref t0, .none, .none, .none, .bool false, .none] } → s.heap.objs.size ≤ dx → dx ≠ x →
      h'.Ns1 dx (fun y => if y = "lever" then some v else none) → R (.ok (.ret .none)) { s with heap := h', toks := tk }) :
    codeAny (model prog w) A (.call (.ref fI) ⟨[.ref x, v], []⟩) R s := by
  obtain ⟨oc, od, doc, pm, an, cdv, ct, osl, p1, p2, q1, q2, q3, q4, ho, hcd⟩ := T.fn
  obtain ⟨nm, q, N, bs, sn, sub, ab, col, dd, k0, k1, k2, k3, k5, hC⟩ := T.cls
  have cl : clsIn K C = some { name := nm, bases := bs, mro := .ref C :: keUp, ns := N, qualname := q, hasDict := true, slotNames := sn, subclasses := sub, abstract := ab, collection := col, hasDel := false } := by
    unfold clsIn
    rw [hC] <;> rfl
  refine Att.call_fn (binds := [("self", .ref x), ("lever", v)]) X lim ho hcd room (BindsTo.of_eq (by first | rfl | with_unfolding_all rfl)) (by first | rfl | decide | with_unfolding_all rfl) (fun s1 IC => ?_) rfl rfl rfl
  obtain ⟨h1, tk1, rfl⟩ := IC.toInCall.same
  have up : ∀ b o, s.heap.get? b = some o → h1.get? b = some o := IC.toInCall.keep
  have hn := IC.toInCall.ns
  have X1 : K.In h1 := X.keeps up
  have hx1 := up _ _ hx
  show wpAny _ _ (execs _ _) _ _ _
  refine wpAny_execs_cons (plainObj_wpAny_Assign_Attribute ?_)
  refine ld_slot (v := v) hn (by first | rfl | with_unfolding_all rfl | kernel_rfl) (ld_slot (v := .ref x) hn (by first | rfl | with_unfolding_all rfl | kernel_rfl) ?_)
  refine set_plain X1 (ox := excO C t0) (od := none) ⟨hx1, rfl, rfl, trivial⟩ T.sa ?_
  refine ke_osa X1 hx1 cl rfl rfl T.noN (fun h3 tk3 dx k3 dn dne hx3 hn3 => ?_)
  show wpAny _ _ (execs _ _) _ _ _
  have z : s.heap.objs.size < h1.objs.size := hn.lt
  exact wpAny_execs_nil (k h3 tk3 dx (fun b o hb e => k3 b o hb (up b o e)) hx3 (Nat.le_of_lt (Nat.lt_of_lt_of_le z dn)) dne hn3)
theorem nol_made (T : NoL K mg C fI) {v : Value} (X : K.In s.heap) (lim : s.heap.NoLimit) (room : A.depth + 1 < recursionLimit) (k : ∀ h' tk e d, Made s.heap h' e C d v → R (.ok (.ret (.ref e))) { s with heap := h', toks := tk }) :
    codeAny (model prog w) A (.call (.ref C) ⟨[v], []⟩) R s := by
  obtain ⟨nm, q, N, bs, sn, sub, ab, col, dd, k0, k1, k2, k3, k5, hC⟩ := T.cls
  obtain ⟨hp, g, dr, tk, os⟩ := s
  have up : ∀ b o, hp.get? b = some o → ((hp.push (kdv_tup [v])).push (excO C hp.objs.size)).get? b = some o := fun b o e => Heap.get?_push_of_some _ (Heap.get?_push_of_some _ e)
  have e1 : ((hp.push (kdv_tup [v])).push (excO C hp.objs.size)).get? (hp.objs.size + 1) = some (excO C hp.objs.size) := by heap_get
  refine ke_call (X _ _ hC) (by rw [sizeLine_eq]; exact (by decide : 1 ≤ 16777216)) (looks_findIn X T.iC) (fun u => bind_fn X u T.tI) ?_
  refine nol_init (s := ⟨(hp.push (kdv_tup [v])).push (excO C hp.objs.size), g, dr, tk, os⟩) T (X.keeps up) (lim.keeps up) e1 ?_ fun h' tk' dx k' hx dn dne hns => ?_
  · show A.depth + 1 < recursionLimit
    exact room
  · have old : ∀ b o, hp.get? b = some o → h'.get? b = some o := fun b o e => k' b o (Nat.ne_of_lt (Nat.lt_succ_of_lt (Heap.lt_size e))) (up b o e)
    have z : hp.objs.size + 1 + 1 ≤ dx := by
      have q := dn
      rw [Heap.size_push, Heap.size_push] at q
      exact q
    exact ⟨rfl, k h' tk' (hp.objs.size + 1) dx ⟨old, Nat.le_succ _, ⟨_, _, hx, rfl, rfl, rfl, rfl⟩, Nat.le_trans (Nat.le_trans (Nat.le_succ _) (Nat.le_succ _)) z, dne, hns⟩⟩
end
end Dk
namespace Dt
open PySem PySem.Spec PyProof.Rows L2 Dk
theorem relO_lever {v : V} {u : Value} (r : RelV v u) (f : Str) : RelO (List.lookup f [(("lever" : Str), v)]) (if f = "lever" then some u else none) := by
  by_cases h : f = "lever"
  · subst h
    have e : List.lookup ("lever" : Str) [(("lever" : Str), v)] = some v := by simp [List.lookup]
    rw [if_pos rfl, e]
    exact r
  · have e1 : (f == ("lever" : Str)) = false := by simpa using h
    have e2 : List.lookup f [(("lever" : Str), v)] = none := by simp [List.lookup, e1]
    rw [if_neg h, e2]
    trivial
section
variable {X : Cx} {C fI : Addr}
/-- NoLever(e) -/
def tMkNol (C : Addr) (ta : TA) : L2.St → Hp → XK → Prop := fun σ H Q => ta σ H fun vs H1 => ∃ v, vs = [v] ∧ ∀ d, H1 d = none → Q (.ref C) (some d) (upd H1 d (.xd [(("lever" : Str), v)]))
theorem pmk_nol {a : Expr} {ta : TA} {p pos : Pos} {k : Nat} (T : NoL X.K X.mg C fI) (hr : Room k X.A) (ha : PA X [a] ta) (hg : Gl X "NoLever" := by rfl)
    (he : starEach (a :: []) X.env = (false, eval a X.env) :: starEach [] X.env := by rfl) (hpl : (backTo pos (starEach [] X.env)).any (·.1) = false := by rfl) : PMk X (.Call (.Name "NoLever" p) [a] [] pos) (tMkNol C ta) := by
  intro pins s σ H Q I h
  refine wpAny_Call_Name_kw (ld_glob I hg T.gC ?_)
  refine PySem.W.callWith_K (h₀ := X.base) I.ok.mod.kin T.kC (thn (ha.run pos pins s σ H _ I h) fun us s1 hh => ?_) he hpl
  obtain ⟨vs, H1, I1, r1, v, rfl, q1⟩ := hh
  refine ⟨I1.kIn, ?_⟩
  cases r1 with
  | cons rv rn =>
    rename_i u us'
    cases rn
    show wpAny _ _ (call (.ref C) [u]) _ _ _
    have lim := I1.nolimit
    obtain ⟨hp, g, dr, tk, os⟩ := s1
    refine wpAny_call (nol_made T I1.kIn lim (by have := hr.dp; omega) fun h' tk' e d M => ?_)
    show MkP X pins σ Q (.ref e) ⟨h', g, dr, tk', os⟩
    obtain ⟨oe, fv, hoe, hc, hd, hdat, h1⟩ := M.obj
    obtain ⟨G, g1, g2⟩ := restrict h' fun b => decide (b ≠ e)
    have gk : ∀ b, b ≠ e → G.get? b = h'.get? b := fun b hb => g1 b (decide_eq_true hb)
    have ge : G.get? e = none := g2 e (by simp)
    have old : ∀ b o, hp.get? b = some o → G.get? b = some o := fun b o q => (gk b (Nat.ne_of_lt (Nat.lt_of_lt_of_le (Heap.lt_size q) M.new))).trans (M.keep b o q)
    have ob : ObjOk X.prog X.w (upd H1 d (.xd [(("lever" : Str), v)])) G d (.xd [(("lever" : Str), v)]) := ⟨_, M.ns.at (fun o q => (gk d M.ne).trans q), fun f => relO_lever rv f⟩
    have J : Inv X pins σ (upd H1 d (.xd [(("lever" : Str), v)])) ⟨G, g, dr, tk', os⟩ := I1.laid (t' := tk') old M.big ob
    refine ⟨e, oe, fv, ⟨G, g, dr, tk', os⟩, _, .ref C, some d, rfl, J, fun b o q => ?_, ge, hoe, ⟨hc, hd⟩, hdat, h1, ?_, rfl, I1.bare, raises_own T.exC T.tyC, q1 d (I1.hok.fresh M.big)⟩
    · by_cases hb : b = e
      · have q' : G.get? b = some o := q
        rw [hb, ge] at q'
        cases q'
      · exact (gk b hb).symm.trans q
    · rw [upd_ne (Ne.symm M.ne)]
      exact I1.hok.fresh M.new
theorem nol_xf {K : PySem.W.Frag} {mg : Str → Option Value} (T : NoL K mg C fI) : XfC K C := ⟨T.ga, T.gg, T.exC, T.hdC⟩
theorem nol_exm {K : PySem.W.Frag} {mg : Str → Option Value} (T : NoL K mg C fI) : PySem.W.exmOne K (.ref C) (.ref C) = some true := PySem.W.exm_ref T.exC T.hdC T.tyC T.self
/-- isinstance(e, c), e the exception that the suite holds, with its own dict at dd -/
def rIsK (K : PySem.W.Frag) (D a : Addr) (cls : Value) (d : Option Addr) : List V → Hp → VK → Prop := fun xs H Q => ∃ (c : V) (cv : Value) (b : Bool) (dd : Addr) (fs : List (Str × V)), cls = .ref D ∧ d = some dd ∧ xs = [.ref a, c] ∧ (∀ u, RelV c u → u = cv) ∧ PySem.W.kitOne K (.ref D) cv = some b ∧ H dd = some (.xd fs) ∧ Q (.bl b) H
theorem call_isK {a : Addr} {oe : Obj} {cls : Value} {d : Option Addr} {mg : Str → Option Value} {pn : List (Addr × Obj)} (T : NoL X.K mg C fI) (hz : Zc cls d oe) (hf : ∃ vs, oe.data = .fields vs) : CallR (X.suite a ((a, oe) :: pn)) (.builtin "isinstance") (rIsK X.K C a cls d) := by
  intro pins s σ H xs us Q I r h
  obtain ⟨c, cv, b, dd, fs, rfl, rfl, rfl, hcv, e, ea, q⟩ := h
  obtain ⟨u1, u2, rfl, r1, r2⟩ := vals2 r
  obtain rfl : u1 = Value.ref a := r1
  have e2 := hcv _ r2
  subst e2
  obtain ⟨hget, _⟩ := I.pin (a, oe) (List.mem_append_left _ List.mem_cons_self)
  obtain ⟨vs, hd⟩ := hf
  have hx : ObjOk X.prog X.w H s.heap dd (.xd fs) := I.hok dd _ ea
  obtain ⟨mA, hns, hr⟩ := hx
  obtain ⟨od, ho, hl⟩ := lookIn_ns hns
  have J : PySem.W.InstAt s.heap a oe C (some od) := ⟨hget, hz.1, by unfold PySem.W.notCls; rw [hd] <;> rfl, by rw [hz.2]; exact ho⟩
  exact PySem.W.kia_one (PySem.W.kitx_exc T.isC T.ga T.gg T.exC T.gc T.spG T.tkG T.obj) I.kIn J e (fun z => nomatch z) fun tk => ⟨.bl b, H, I.tok tk, rfl, q⟩
end
end Dt

set_option Elab.async false
set_option maxRecDepth 100000
set_option maxHeartbeats 4000000
set_option linter.all false
/-! defs that are called where no repr is under way: the promise holds around a caller without guards -/
namespace Dt
open PySem PySem.Spec PyProof.Rows L2
structure FnG (P : Program) (w : World) (K : PySem.W.Frag) (mg : Str → Option Value) (base : Heap) (CX : CXT) (k : Nat) (f : Addr) (fd : FuncData) (ps : List Str) (sp : Sp) : Prop where
  len : ∀ vs H Q E, sp vs H Q E → vs.length = ps.length
  go : ∀ (A : Around) (outer : List Env) (s : Shared) (H : Hp) (args : Args) (us : List Value) (vs : List V) (Q : VK) (E : XK), A.guards = some [] → Room k A → Env0 P w K mg base A outer s H → BindsTo s fd args (ps.zip us) → Vals vs us → sp vs H Q E →
    codeAny (model P w) A (.call (.ref f) args) (CR CX outer P w H s Q E) s
theorem FnG.mono {P : Program} {w : World} {K : PySem.W.Frag} {mg : Str → Option Value} {base : Heap} {CX : CXT} {j k : Nat} {f : Addr} {fd : FuncData} {ps : List Str} {sp : Sp} (F : FnG P w K mg base CX j f fd ps sp) (h : j ≤ k) : FnG P w K mg base CX k f fd ps sp :=
  ⟨F.len, fun A o s H a us vs Q E g r => F.go A o s H a us vs Q E g (r.mono h)⟩
section
variable {P : Program} {w : World} {K : PySem.W.Frag} {mg : Str → Option Value} {base : Heap}
theorem fng {x qual : Str} {st : Stmt} {f : Addr} {fd : FuncData} {N ps : List Str} {k : Nat} {sp : Sp} (F : Fun K x qual st f fd) (S : FnScope N ps (defScope st)) (len : ∀ vs H Q E, sp vs H Q E → vs.length = ps.length)
    (body : ∀ (cdv : Value) (A : Around) (outer : List Env) (s : Shared) (H : Hp) (vs : List V) (Q : VK) (E : XK), A.guards = some [] → Room k (A.deeper (envOfC qual (defScope st) s.heap.objs.size f cdv)) → sp vs H Q E →
      ∃ t, PSs (cxOf CX0 P w K mg base N qual (defScope st) f cdv A outer s H E).nox (defBody st) t ∧ t { nx := fun _ G => Q .non G, rt := Q } (start N vs) H) : FnG P w K mg base CX0 (k + 1) f fd ps sp := by
  obtain ⟨oc, od, kV, doc, pm, an, cdv, ct, osl, rfl, lk, hcd⟩ := F.ex
  refine ⟨len, fun A outer s H args us vs Q E hg hr e0 hb r h => ?_⟩
  have hl := len _ _ _ _ h
  have X0 : K.In s.heap := e0.mod.kin.keeps fun b o e => (e0.bs b o e).1
  have lim : s.heap.NoLimit := e0.mod.nolimit.keeps fun b o e => (e0.bs b o e).1
  have kinds : ∀ y ∈ ps.zip us, (defScope st).names.lookup y.1 = some .local ∨ ((defScope st).names.lookup y.1 = some .cell ∧ ((cellsFrom (s.heap.objs.size + 1) (defScope st).names []).lookup y.1).isSome = true) := fun y hy => by
    rcases S.par y.1 (List.of_mem_zip hy).1 with q | q
    · exact .inl q
    · exact .inr ⟨q, PySem.W.cellsFrom_some _ _ _ (.inl q)⟩
  refine codeAny_call_function hr.depth (X0 _ _ lk) rfl S.co S.gen rfl (PySem.W.codeRec_of X0 hcd) (hb _ _ _ _ (wpAny_newFunctionEnv_cells S.kind kinds fun env he s1 x => ?_))
  subst he
  refine ⟨lim.keeps x.toInCall.keep, codeAny_func ?_⟩
  obtain ⟨t, ht, hq⟩ := body cdv A outer s H vs Q E hg (hr.deeper _) h
  have I : Inv (cxOf CX0 P w K mg base N qual (defScope st) f cdv A outer s H E) [] (start N vs) H s1 := inv_start S hr.hd e0 hl r x
  refine wpAny_mono (ht.nox.run [] s1 (start N vs) H _ I hq) (fun fl s2 z => ?_) fun e s2 z => z
  cases fl with
  | ret u =>
    obtain ⟨v, σ2, H2, J, rv, q⟩ := z
    exact ⟨v, H2, J.os, J.bare, J.base, J.hok, rv, q⟩
  | next =>
    obtain ⟨σ2, H2, J, q⟩ := z
    exact ⟨V.non, H2, J.os, J.bare, J.base, J.hok, (rfl : Value.none = Value.none), q⟩
  | brk =>
    obtain ⟨_, _, _, q⟩ := z
    exact q.elim
  | cont =>
    obtain ⟨_, _, _, q⟩ := z
    exact q.elim
end
def HasG (P : Program) (w : World) (K : PySem.W.Frag) (mg : Str → Option Value) (base : Heap) (k : Nat) (x : Str) (ps : List Str) (sp : Sp) : Prop :=
  ∃ f fd, FnG P w K mg base CX0 k f fd ps sp ∧ mg x = some (.ref f) ∧ PySem.W.keepIn K (.ref f) = true ∧ Binds K fd ps []
section
variable {X : Cx} {k : Nat} {x : Str} {ps : List Str} {sp : Sp} {p pos : Pos} {e : Expr} {es : List Expr} {t : TA}
theorem pe_hasG (h : HasG X.prog X.w X.K X.mg X.base k x ps sp) (hg : X.A.guards = some []) (hr : Room k X.A) (ha : PA X (e :: es) t) (gl : Gl X x := by rfl) (hdb : (x == ("__debug__" : Str)) = false := by decide)
    (he : starEach (e :: es) X.env = (false, eval e X.env) :: starEach es X.env := by rfl) (hpl : (backTo pos (starEach es X.env)).any (·.1) = false := by rfl) : PE X (.Call (.Name x p) (e :: es) [] pos) (tCall sp [] E0 t) := by
  obtain ⟨f, fd, F, hm, kp, b⟩ := h
  refine ⟨fun pins s σ H Q I h => wpAny_Call_Name_kw (ld_glob I gl hm (PySem.W.callWith_K (h₀ := X.base) I.ok.mod.kin kp (thn (ha.run pos pins s σ H _ I h) fun us s1 hh => ?_) he hpl) hdb)⟩
  obtain ⟨vs, H1, I1, r, q⟩ := hh
  refine ⟨I1.kIn, ?_⟩
  rw [List.append_nil] at q
  have hl : (us ++ []).length = ps.length := by rw [List.append_nil, ← r.length]; exact F.len _ _ _ _ q
  have bt := b s1 us I1.kIn hl
  rw [List.append_nil] at bt
  show wpAny (model X.prog X.w) X.A (call (.ref f) us) (EP X pins σ Q) X.xe s1
  refine wpAny_call (codeAny_mono (F.go X.A X.stack s1 H1 ⟨us, []⟩ us vs Q E0 hg hr I1.env0 bt r q) fun r2 s2 z => ?_)
  cases r2 with
  | error er => exact pass0 pins σ H1 s1 er s2 I1 z
  | ok fl =>
    cases fl with
    | ret u => exact I1.after z
    | next => exact z.elim
    | brk => exact z.elim
    | cont => exact z.elim
end
/-! ### the law, called -/
theorem lawG {P : Program} {w : World} {K : PySem.W.Frag} {mg mb : Str → Option Value} {CX : CXT} {k : Nat} {fa a : Addr} {fd : FuncData} {x : Str} {sp : Sp} {s1 : Shared} {vs : List Value} {ns : List Int}
    (X0 : K.In s1.heap) (g1 : s1.heap.Ns mainGlobals mg) (b1 : s1.heap.Ns builtinsNs mb) (b2 : ∀ y : Str, y ≠ "__name__" → mb y = bootBuiltins y) (lim : s1.heap.NoLimit) (gs : s1.gens = #[])
    (la : s1.heap.get? a = some { cls := .type "list", data := .seq vs.toArray }) (ii : IntsAre vs ns) (sz : ns.length ≤ sizeLine) (hr : Room k callerA)
    (F : ∀ base : Heap, K.In base → base.Ns mainGlobals mg → FnG P w K mg base CX k fa fd [x] sp) (bd : ∀ (s : Shared) (u : Value), BindsTo s fd ⟨[u], []⟩ [(x, u)])
    (hsp : ∀ H : Hp, Only H → SqL K H a (ns.map V.int) → sp [.ref a] H (fun v _ => v = .bl true) fun _ _ _ => False) (hCX : ∀ H e s', CX [] H s1 (fun _ _ _ => False) e s' → False) :
    codeAny (model P w) callerA (.call (.ref fa) ⟨[.ref a], []⟩) (fun r s' => r = .ok (.ret (.bool true)) ∧ OldK s1.heap s'.heap ∧ s'.os = s1.os ∧ AllBare s'.gens) s1 := by
  have rv := vals_ints ii
  have lv := ii.length
  have core : ∀ H : Hp, Only H → SqL K H a (ns.map V.int) → HOk P w H s1.heap → (∀ b, H b ≠ none → b = a) → (H a ≠ none → K.lookup a = none) →
      codeAny (model P w) callerA (.call (.ref fa) ⟨[.ref a], []⟩) (fun r s' => r = .ok (.ret (.bool true)) ∧ OldK s1.heap s'.heap ∧ s'.os = s1.os ∧ AllBare s'.gens) s1 := by
    intro H only hS hok one hK
    have under : ∀ {b : Addr} {o : Obj}, s1.heap.get? b = some o → H b = none → (hidT s1.heap H).get? b = some o := fun e n => hidT_get e n
    have free : ∀ {b : Addr} {o : Obj} {es : Array DictEntry} {ep : Nat}, s1.heap.get? b = some o → o.data = .dict es ep → H b = none := fun {b o es ep} e d => by
      cases q : H b with
      | none => rfl
      | some u =>
        obtain rfl : b = a := one b (by rw [q]; exact fun z => nomatch z)
        rw [la] at e
        cases e
        cases (show Data.seq vs.toArray _ = Data.dict es ep from d)
    have nsK : ∀ {b : Addr} {m : Str → Option Value}, s1.heap.Ns b m → (hidT s1.heap H).Ns b m := fun {b m} ⟨o, es, ep, e, d, r⟩ => ⟨o, es, ep, under e (free e d), d, r⟩
    have kb : K.In (hidT s1.heap H) := fun b o e => under (X0 b o e) (by
      cases q : H b with
      | none => rfl
      | some u =>
        obtain rfl : b = a := one b (by rw [q]; exact fun z => nomatch z)
        rw [hK (by rw [q]; exact fun z => nomatch z)] at e
        cases e)
    have md : Mod K mg (hidT s1.heap H) := ⟨kb, nsK g1, ⟨mb, nsK b1, b2⟩, let ⟨mc, h1, h2⟩ := lim; ⟨mc, nsK h1, h2⟩⟩
    have e0 : Env0 P w K mg (hidT s1.heap H) callerA [] s1 H := ⟨rfl, md, fun b o e => of_hidT e, Nat.le_of_eq (hidT_size _ _), trivial, (fun b hb => nomatch hb), hok, .of_eq gs⟩
    refine codeAny_mono ((F _ kb (nsK g1)).go callerA [] s1 H ⟨[.ref a], []⟩ [.ref a] [.ref a] _ _ rfl hr e0 (bd s1 (.ref a)) (.cons rfl .nil) (hsp H only hS)) fun r s2 z => ?_
    cases r with
    | error e => exact (hCX H e s2 z).elim
    | ok fl =>
      cases fl with
      | next => exact z.elim
      | brk => exact z.elim
      | cont => exact z.elim
      | ret u =>
        obtain ⟨v, H2, os, bare, un, hok2, rr, q⟩ := z
        obtain rfl : v = .bl true := q
        obtain rfl : u = Value.bool true := rr
        refine ⟨rfl, OldK.of_keep fun b o e => ?_, os, bare⟩
        cases q : H b with
        | none => exact un.keep b o e q (fun z => nomatch z) (fun z => nomatch z)
        | some u =>
          rcases only b with y | ⟨ob, xs, y⟩
          · rw [q] at y
            cases y
          · obtain ⟨e1, _⟩ := hok b _ y
            obtain ⟨e2, _⟩ := hok2 b _ (un.frzs b ob _ y)
            rw [e] at e1
            cases e1
            exact e2
  cases hk : K.lookup a with
  | some o =>
    have e := X0 a o hk
    rw [la] at e
    cases e
    exact core (fun _ => none) (fun _ => .inl rfl) (.inr ⟨_, vs.toArray, _, hk, rfl, rfl, rfl, by rw [List.size_toArray, lv]; exact sz, by simpa using rv⟩) (fun b u z => nomatch (show (none : Option HO) = some u from z)) (fun b z => absurd rfl z) fun z => absurd rfl z
  | none =>
    refine core (fun b => if b = a then some (.frz { cls := .type "list", data := .seq vs.toArray } (.lst (ns.map V.int))) else none) (fun b => ?_) (.inl (.inr ⟨{ cls := .type "list", data := .seq vs.toArray }, if_pos rfl⟩)) (fun b u z => ?_) (fun b z => ?_) fun _ => hk
    · by_cases hb : b = a
      · exact .inr ⟨_, _, if_pos hb⟩
      · exact .inl (if_neg hb)
    · by_cases hb : b = a
      · have y := (if_pos hb).symm.trans z
        cases y
        subst hb
        exact ⟨la, by rw [List.length_map]; exact sz, vs, _, rv, la⟩
      · have y := (if_neg hb).symm.trans z
        cases y
    · by_cases hb : b = a
      · exact hb
      · exact absurd (if_neg hb) z
theorem walkG {l : PySem.W.OpenLaw} {n k : Nat} {q : Program} {loose : List Str} {XP : (Str → Option Value) → Heap → Prop} {YP : World → Heap → Prop} {d : DefRec} {K : Params → PySem.W.Frag} {CX : CXT} {sp : PySem.W.Frag → Sp} {x : Str}
    (hn : l.most = some n) (hn2 : n ≤ sizeLine) (hdf : d.params.defaults = []) (hr : Room k callerA) (hY : ∀ (w : World) (h : Heap), YP w h → (K w.params).In h)
    (F : ∀ (w : World) (mg : Str → Option Value) (fa : Addr) (h : Heap), YP w h → (K w.params).In h → h.Ns mainGlobals mg → mg d.name = some (.ref fa) →
      ∃ fd : FuncData, (∀ (s : Shared) (u : Value), BindsTo s fd ⟨[u], []⟩ [(x, u)]) ∧ ∀ base : Heap, (K w.params).In base → base.Ns mainGlobals mg → FnG l.prog w (K w.params) mg base CX k fa fd [x] (sp (K w.params)))
    (hsp : ∀ (K : PySem.W.Frag) (H : Hp) (a : Addr) (ns : List Int), ns.length ≤ n → Only H → SqL K H a (ns.map V.int) → sp K [.ref a] H (fun v _ => v = .bl true) fun _ _ _ => False)
    (hCX : ∀ (H : Hp) (s : Shared) (e : Value) (s' : Shared), CX [] H s (fun _ _ _ => False) e s' → False) : PySem.W.WalkO q loose XP YP l.row.toRowW d [] (fun f vs => PySem.call f vs) := by
  refine Att.attach_call hn hdf fun w s0 s1 mg mb fa o pm cd doc a vs ns G Y ho hd hcd hmg hobj hints hlen hg => ?_
  obtain ⟨fd, hb, hF⟩ := F w mg fa _ Y (hY w _ Y) G.T.g hmg
  exact lawG (hY w _ Y) G.T.g G.T.b G.T.builtins G.T.nolimit hg hobj hints (Nat.le_trans hlen hn2) hr hF hb (fun H hO hS => hsp (K w.params) H a ns hlen hO hS) fun H e s' => hCX H s1 e s'
end Dt

set_option Elab.async false
set_option maxRecDepth 100000
set_option maxHeartbeats 4000000
set_option linter.all false
/-! lots on the heap -/
namespace Dl
open PySem L2 Evl Dt
theorem ExB.mut {b p : Addr} {H G : Hp} {o : HO} (x : ExB b H G) (h : H p = none) : ExB b H (L2.upd G p o) := fun a u ha n => by
  rw [upd_ne (ne_of_none ha h)]
  exact x a u ha n
theorem ExB.inS {b : Addr} {S : List Addr} {H H1 : Hp} (hb : b ∈ S) (x : ExB b H H1) : Ex (Dt.cut S H) (Dt.cut S H1) := fun a o h => by
  obtain ⟨h1, h2⟩ := cut_some h
  rw [cut_out h1]
  exact x a o h2 fun z => h1 (z ▸ hb)
theorem nd_at {α : Type} {xs : List α} {i j : Nat} {v : α} (h : xs.Nodup) (h1 : xs[i]? = some v) (h2 : xs[j]? = some v) : i = j := by
  obtain ⟨l1, e1⟩ := List.getElem?_eq_some_iff.mp h1
  obtain ⟨l2, e2⟩ := List.getElem?_eq_some_iff.mp h2
  rcases Nat.lt_trichotomy i j with c | c | c
  · exact absurd (e1.trans e2.symm) (List.pairwise_iff_getElem.mp h i j l1 l2 c)
  · exact c
  · exact absurd (e2.trans e1.symm) (List.pairwise_iff_getElem.mp h j i l2 l1 c)
structure Lots (H0 : Hp) (b L : Addr) (ls : List Lot) (G : Hp) : Prop where
  list : G L = some (.lst (ls.map fun p => V.ref p.1))
  each : ∀ p ∈ ls, G p.1 = some (.lst ((zi p.2).map V.int))
  nd : (ls.map Prod.fst).Nodup
  new : ∀ p ∈ ls, H0 p.1 = none ∧ p.1 ≠ L
  newL : H0 L = none
  ex : ExB b H0 G
  box : Box G b
  was : H0 b ≠ none
theorem box_some {G : Hp} {b : Addr} (h : Box G b) : G b ≠ none := by
  obtain ⟨g, s, h, _⟩ := h
  rw [h]
  exact fun z => nomatch z
section
variable {H0 G G' : Hp} {b L : Addr} {ls : List Lot}
theorem fresh0 (ex : ExB b H0 G) (bx : Box G b) {p : Addr} (h : G p = none) : H0 p = none := by
  cases q : H0 p with
  | none => rfl
  | some o =>
    by_cases e : p = b
    · rw [e] at h
      exact absurd h (box_some bx)
    · rw [ex p o q e] at h
      cases h
theorem Lots.fresh (h : Lots H0 b L ls G) {p : Addr} (hp : G p = none) : H0 p = none := fresh0 h.ex h.box hp
theorem Lots.step (h : Lots H0 b L ls G) (e : ExB b G G') (bx : Box G' b) : Lots H0 b L ls G' := by
  have nb : ∀ {a : Addr}, H0 a = none → a ≠ b := fun {a} n z => h.was (z ▸ n)
  exact ⟨e _ _ h.list (nb h.newL), fun p hp => e _ _ (h.each p hp) (nb (h.new p hp).1), h.nd, h.new, h.newL, h.ex.trans e, bx, h.was⟩
theorem Lots.mono (h : Lots H0 b L ls G) (e : Ex G G') : Lots H0 b L ls G' := h.step (.of e) (h.box.mono e)
theorem Lots.boxne (h : Lots H0 b L ls G) {a : Addr} (n : H0 a = none) : b ≠ a := fun z => h.was (z ▸ n)
theorem box_upd {a : Addr} {o : HO} (h : Box G b) (n : b ≠ a) : Box (upd G a o) b := by
  obtain ⟨g, s, h1, h2⟩ := h
  exact ⟨g, s, by rw [upd_ne n]; exact h1, h2⟩
theorem Lots.put (h : Lots H0 b L ls G) {i : Nat} {p : Lot} (hi : ls[i]? = some p) (z : Nat) : Lots H0 b L (ls.modify i fun p => (p.1, p.2 ++ [z])) (upd G p.1 (.lst ((zi p.2).map V.int ++ [.int (z : Int)]))) := by
  have hm := List.mem_of_getElem? hi
  obtain ⟨n0, nL⟩ := h.new p hm
  have ef : (ls.modify i fun p => (p.1, p.2 ++ [z])).map Prod.fst = ls.map Prod.fst := by
    refine List.ext_getElem? fun j => ?_
    rw [List.getElem?_map, List.getElem?_map, get_modify]
    cases ls[j]? with
    | none => rfl
    | some q => simp only [Option.map_some]; split <;> rfl
  have er : (ls.modify i fun p => (p.1, p.2 ++ [z])).map (fun p => V.ref p.1) = ls.map fun p => V.ref p.1 := by
    have := congrArg (List.map V.ref) ef
    rw [List.map_map, List.map_map] at this
    exact this
  refine ⟨?_, ?_, by rw [ef]; exact h.nd, ?_, h.newL, h.ex.mut n0, box_upd h.box (h.boxne n0), h.was⟩
  · rw [er, upd_ne nL.symm]
    exact h.list
  · intro q hq
    obtain ⟨j, hj⟩ := List.mem_iff_getElem?.mp hq
    rw [get_modify] at hj
    obtain ⟨r, hr, rfl⟩ := Option.map_eq_some_iff.mp hj
    by_cases e : j = i
    · subst e
      rw [hi] at hr
      obtain rfl := Option.some.inj hr
      rw [if_pos rfl]
      show upd G p.1 _ p.1 = _
      rw [upd_same]
      unfold zi
      rw [List.map_append, List.map_append]
      rfl
    · rw [if_neg e]
      have hne : r.1 ≠ p.1 := fun z => by
        have a1 : (ls.map Prod.fst)[j]? = some r.1 := by rw [List.getElem?_map, hr]; rfl
        have a2 : (ls.map Prod.fst)[i]? = some r.1 := by rw [List.getElem?_map, hi, z]; rfl
        exact e (nd_at h.nd a1 a2)
      rw [upd_ne hne]
      exact h.each r (List.mem_of_getElem? hr)
  · intro q hq
    have : q.1 ∈ ls.map Prod.fst := by rw [← ef]; exact List.mem_map_of_mem hq
    obtain ⟨r, hr, e⟩ := List.mem_map.mp this
    rw [← e]
    exact h.new r hr
theorem Lots.grow (h : Lots H0 b L ls G) {p : Addr} (np : G p = none) (e : Ex G G') (hp : G' p = some (.lst [])) : Lots H0 b L (ls ++ [(p, [])]) (upd G' L (.lst ((ls.map fun p => V.ref p.1) ++ [.ref p]))) := by
  have h' := h.mono e
  have pL : p ≠ L := fun z => by rw [z, h.list] at np; cases np
  refine ⟨by rw [List.map_append]; exact upd_same, ?_, ?_, ?_, h.newL, h'.ex.mut h.newL, box_upd h'.box (h.boxne h.newL), h.was⟩
  · intro q hq
    rcases List.mem_append.mp hq with hq | hq
    · rw [upd_ne (h.new q hq).2]
      exact h'.each q hq
    · rw [List.mem_singleton.mp hq]
      exact (upd_ne pL).trans hp
  · rw [List.map_append, List.nodup_append]
    refine ⟨h.nd, by simp, fun x hx y hy => ?_⟩
    rw [List.mem_singleton.mp hy]
    obtain ⟨r, hr, rfl⟩ := List.mem_map.mp hx
    intro z
    have := h.each r hr
    rw [z, np] at this
    cases this
  · intro q hq
    rcases List.mem_append.mp hq with hq | hq
    · exact h.new q hq
    · rw [List.mem_singleton.mp hq]
      exact ⟨h.fresh np, pL⟩
theorem Lots.rot {p : Lot} (h : Lots H0 b L (p :: ls) G) (o : HO) : Lots H0 b L (ls ++ [p]) (upd (upd G L o) L (.lst ((ls.map fun p => V.ref p.1) ++ [.ref p.1]))) := by
  have hp : (p :: ls).Perm (ls ++ [p]) := (List.perm_append_comm (l₁ := [p]) (l₂ := ls))
  refine ⟨by rw [List.map_append]; exact upd_same, fun q hq => ?_, (hp.map Prod.fst).nodup_iff.mp h.nd, fun q hq => h.new q (hp.mem_iff.mpr hq), h.newL, (h.ex.mut h.newL).mut h.newL, box_upd (box_upd h.box (h.boxne h.newL)) (h.boxne h.newL), h.was⟩
  have hm := hp.mem_iff.mpr hq
  rw [upd_ne (h.new q hm).2, upd_ne (h.new q hm).2]
  exact h.each q hm
end
theorem given_filter {α : Type} (d : α) (f : α → Bool) (v : α → V) (l : List α) : given l.length (fun i => f (l.getD i d)) (fun i => v (l.getD i d)) = (l.filter f).map v := by
  have e : (List.range l.length).map (fun i => l.getD i d) = l := by
    refine List.ext_getElem? fun i => ?_
    rw [List.getElem?_map]
    by_cases h : i < l.length
    · rw [List.getElem?_range h, Option.map_some, List.getD_eq_getElem?_getD, List.getElem?_eq_getElem h]
      rfl
    · rw [List.getElem?_eq_none (by simpa using Nat.le_of_not_lt h), List.getElem?_eq_none (Nat.le_of_not_lt h)]
      rfl
  have e2 : given l.length (fun i => f (l.getD i d)) (fun i => v (l.getD i d)) = (((List.range l.length).map (fun i => l.getD i d)).filter f).map v := by
    unfold given
    rw [List.filter_map, List.map_map]
    rfl
  rw [e2, e]
theorem atI_neg1 {α : Type} {xs : List α} {v : α} (h : xs.getLast? = some v) : atI xs (-1) = some v := by
  have hne : xs ≠ [] := fun z => by rw [z] at h; cases h
  have e := List.dropLast_concat_getLast hne
  have e2 : xs.getLast hne = v := by rw [List.getLast?_eq_some_getLast hne] at h; exact Option.some.inj h
  rw [← e, e2]
  exact atI_last _ _
theorem sIx_neg1 (n : Nat) (h : 1 ≤ n) : HT.sIx n n (some (-1)) = n - 1 := by
  unfold HT.sIx
  simp
  omega
theorem cut_mid (xs : List V) (h : 2 ≤ xs.length) : cutV xs (some 1) (some (-1)) = (xs.drop 1).take (xs.length - 2) := by
  unfold cutV
  have e1 : HT.sIx xs.length 0 (some 1) = 1 := by
    have := HT.sIx_nat xs.length 0 1
    rw [show ((1 : Nat) : Int) = 1 from rfl] at this
    omega
  have e2 := sIx_neg1 xs.length (by omega)
  rw [e1, e2]
  congr 1
theorem cut_butlast (xs : List V) (h : 1 ≤ xs.length) : cutV xs none (some (-1)) = xs.dropLast := by
  unfold cutV
  have e2 := sIx_neg1 xs.length h
  rw [e2, HT.sIx_none, List.drop_zero, Nat.sub_zero, List.dropLast_eq_take]
end Dl

set_option Elab.async false
set_option maxRecDepth 100000
set_option maxHeartbeats 4000000
set_option linter.all false
/-! the law's drawing of trees -/
namespace Dl
open PySem L2 Evl Dt
theorem asc_take {zs : List Nat} (h : zs.Pairwise (· < ·)) {i z : Nat} (hz : zs[i]? = some z) : ∀ y ∈ zs.take i, y < z := fun y hy => by
  obtain ⟨j, hj⟩ := List.mem_iff_getElem?.mp hy
  rw [List.getElem?_take] at hj
  split at hj
  · obtain ⟨l1, e1⟩ := List.getElem?_eq_some_iff.mp hj
    obtain ⟨l2, e2⟩ := List.getElem?_eq_some_iff.mp hz
    have := List.pairwise_iff_getElem.mp h j i l1 l2 (by assumption)
    rw [e1, e2] at this
    exact this
  · cases hj
theorem snd_modify {ls : List Lot} {i z : Nat} : (ls.modify i fun p => (p.1, p.2 ++ [z])).map Prod.snd = (ls.map Prod.snd).modify i (· ++ [z]) := by
  refine List.ext_getElem? fun j => ?_
  rw [List.getElem?_map, get_modify, get_modify, List.getElem?_map]
  cases ls[j]? with
  | none => rfl
  | some q => simp only [Option.map_some]; split <;> rfl
theorem full_put {qs : List (List Nat)} {i j z : Nat} (h : ∀ q, qs[j]? = some q → q ≠ []) : ∀ q, (qs.modify i (· ++ [z]))[j]? = some q → q ≠ [] := fun q hq => by
  rw [get_modify] at hq
  obtain ⟨p, hp, rfl⟩ := Option.map_eq_some_iff.mp hq
  split
  · simp
  · exact h p hp
theorem Deal.grow {zs : List Nat} {qs : List (List Nat)} (D : Deal zs qs) : Deal zs (qs ++ [[]]) := by
  refine ⟨by rw [List.flatten_append]; simpa using D.perm, fun q hq => ?_⟩
  rcases List.mem_append.mp hq with hq | hq
  · exact D.asc q hq
  · rw [List.mem_singleton.mp hq]
    exact List.Pairwise.nil
theorem Deal.rot {zs p : List Nat} {qs : List (List Nat)} (D : Deal zs (p :: qs)) : Deal zs (qs ++ [p]) := by
  have hp : (p :: qs).Perm (qs ++ [p]) := (List.perm_append_comm (l₁ := [p]) (l₂ := qs))
  exact ⟨hp.symm.flatten.trans D.perm, fun q hq => D.asc q (hp.mem_iff.mpr hq)⟩
section
variable {K : PySem.W.Frag} {S : List Addr} {σ : L2.St} {H : Hp} {te : TE}
theorem t_lst1 {xs : List V} {Q : VK} (h : EvL te σ H xs) (k : ∀ a H1, H a = none → Ex H H1 → H1 a = some (.lst xs) → ∀ p, H1 p = none → Q (.ref p) (upd H1 p (.lst [.ref a]))) : tLst (tCons te tNil) σ H Q :=
  h H (Ex.refl H) _ fun a H1 na e h1 => ⟨by show 1 ≤ sizeLine; decide, fun p hp => k a H1 na e h1 p hp⟩
theorem t_cbL {r : List V → Hp → VK → Prop} {xs : List V} {Q : VK} (h : EvL te σ H xs) (k : ∀ a H1, H a = none → Ex H H1 → H1 a = some (.lst xs) → r [.ref a] H1 Q) : tCB r (tCons te tNil) σ H Q :=
  h H (Ex.refl H) _ fun a H1 na e h1 => k a H1 na e h1
/-- a comprehension over a list, opened -/
theorem lc_open {tl : TE} {g : TG} {tt : TT} {vs : List Nat} {Q : VK}
    (h : tl σ H fun v H1 => ∃ a, v = .ref a ∧ (∃ xs, SqL K H1 a xs) ∧ ∀ D, H1 D = none → ∃ W : Nat → Nat → Hp → Prop,
      (∃ m, W 0 m (upd H1 D (.lst []))) ∧ ∀ i m H, W i m H →
        ((Itl K a).stop i H ∧ Q (.ref D) H) ∨
        ((Itl K a).go i H ∧ ∃ Nx : Hp → Prop, (∀ H', Nx H' → ∃ m', m' < m ∧ W (i + 1) m' H') ∧
          ∀ x H', (Itl K a).yld i H x H' → g x (wipe σ vs) H' fun σ2 H2 =>
            wipe σ2 vs = wipe σ vs ∧ tt σ2 H2 fun b H3 =>
              if b = true then te σ2 H3 fun y H4 => ∃ acc, H4 D = some (.lst acc) ∧ acc.length < sizeLine ∧ Nx (upd H4 D (.lst (acc ++ [y]))) else Nx H3)) :
    tLc (iList K tl) g tt te vs σ H Q := h
theorem ed_tupOfD {ds : List PyData} {r : List V → Hp → VK → Prop} (D : Dom S H) (h : EvD K S te σ H (.list ds))
    (hr : ∀ (p : Addr) (ys : List V) H1 (Q : VK), SqL K H1 p ys → (∀ l, H1 l = none → Q (.ref l) (upd H1 l (.tup ys))) → r [.ref p] H1 Q) : EvD K S (tCB r (tCons te tNil)) σ H (.tuple ds) := fun H1 e Q q =>
  h H1 e _ fun v H2 e2 f => by
    obtain ⟨a, xs, rfl, hs, hx⟩ := dp_lst f
    exact hr a xs H2 Q (ex_l (cut_le S H2) hs) fun l hl => q _ _ (e2.trans (Ex.new hl)) (dp_newT (D.mono (e.trans e2)) hl hx)
end
section
variable {P : Program} {w : World} {K : PySem.W.Frag} {mg : Str → Option Value} {base : Heap} {f C pF : Addr} {fd : FuncData}
def spPart (K : PySem.W.Frag) (n : Nat) : Sp := fun vs H Q _ => ∃ (S : List Addr) (b l : Addr) (s : Str) (zs : List Nat), vs = [.ref b, .ref l, .str s] ∧ Dom S H ∧ b ∈ S ∧ Box H b ∧ l ≠ b ∧ H l = some (.lst ((zi zs).map V.int)) ∧ zs.Pairwise (· < ·) ∧ zs ≠ [] ∧ zs.length ≤ n ∧ zs.length ≤ 200 ∧
  ∀ (t : T) (y : V) (H' : Hp), ExB b H H' → Box H' b → Pt t zs → (∀ w, s = wd w → t.hasWord w = false) → Dp K (cut S H') y t.d → Q y H'
abbrev s_law_part : Stmt := topS 36
abbrev N_law_part : List Str := ["_law_box_here", "_law_levers", "_law_word", "_law_many", "_law_lots", "_law_turn", "_law_lever", "_law_lot", "_law_parts", "_law_other"]
theorem sc_law_part : FnScope N_law_part ["_law_box_here", "_law_levers", "_law_word"] (defScope s_law_part) := ⟨rfl, rfl, rfl, by decide +kernel, rfl, by decide +kernel, by decide +kernel⟩

theorem ok_law_part (F : Fun K "_law_part" "_law_part" s_law_part f fd) (T : Nm mg) (hm : mg "_law_part" = some (.ref f)) (kp : PySem.W.keepIn K (.ref f) = true) (bd : Binds K fd ["_law_box_here", "_law_levers", "_law_word"] [])
    (h_law_take : Has P w K mg base 1 "_law_take" ["_law_box_here", "_law_many"] spTake) (h_law_pick : Has P w K mg base 2 "_law_pick" ["_law_box_here", "_law_some"] (spPick K)) :
    ∀ n : Nat, FnOk P w K mg base CX0 (n + 3) f fd ["_law_box_here", "_law_levers", "_law_word"] (spPart K n) := by
  intro n
  induction n with
  | zero =>
    refine F.ok sc_law_part (fun vs H Q E h => ?_) (fun cdv A' outer s H vs Q E hr h => ?_)
    · obtain ⟨S, b, l, s, zs, rfl, _⟩ := h
      rfl
    · obtain ⟨S, b, l, s, zs, rfl, _, _, _, _, _, _, h1, h2, _⟩ := h
      exact absurd (List.length_pos_iff.mpr h1) (by omega)
  | succ n ih =>
    have h_law_part : Has P w K mg base (n + 3) "_law_part" ["_law_box_here", "_law_levers", "_law_word"] (spPart K n) := ⟨f, fd, ih, hm, kp, bd⟩
    refine F.ok sc_law_part (fun vs H Q E h => ?_) (fun cdv A' outer s H vs Q E hr h => ?_)
    · obtain ⟨S, b, l, s, zs, rfl, _⟩ := h
      rfl
    · obtain ⟨S, b, l, s, zs, rfl, D, hbS, hB, hlb, hl, hasc, hne, hn, h200, k⟩ := h
      have nd := sc_law_part.nd
      have hu64 := hr.units
      refine ⟨_, (pss_cons (ps_if (pt_cmpR op_eq (pe_callB call_len_seq (by rfl) T.n_len (by decide +kernel) (pa_cons (pv 1) pa_nil)) pe_int (nomark _)) (pss_one (ps_ret (pe_ix ix_list (pv 1) pe_int (fun _ _ => rfl)))) pss_nil)
  (pss_cut (ps_set (i := 2) nd rfl (Or.inr rfl) (pe_has h_law_pick (hr.mono (by first | decide | omega)) (pa_cons (pv 0) (pa_cons (pe_lc (own := [("_law_other", 9)]) rfl nd (pi_tup (pe_tup (pa_cons pe_str (pa_cons pe_str pa_nil)))) (blkOk_by (own := [("_law_other", 9)]) (N := N_law_part) (sc := defScope s_law_part) (by decide +kernel)) (fun _ _ _ _ _ => (pg_name (i := 9) nd rfl (Or.inl rfl))) (fun _ _ _ _ _ => (pts_one (pt_cmpR op_ne (pv 9) (pv 2) (nomark _)))) (fun _ _ _ _ _ => (pv 9))) pa_nil))))
  (pss_cut (ps_par (i := 3) (j := 4) rfl nd rfl rfl (by decide) rfl rfl (pa_cons (pe_op op_add pe_int (pe_has h_law_take (hr.mono (by first | decide | omega)) (pa_cons (pv 0) (pa_cons (pe_callB (call_min2 rfl) (by rfl) T.n_min (by decide +kernel) (pa_cons pe_int (pa_cons (pe_op op_sub (pe_callB call_len_seq (by rfl) T.n_len (by decide +kernel) (pa_cons (pv 1) pa_nil)) pe_int) pa_nil))) pa_nil)))) (pa_cons (pe_lst (pa_cons (pe_lst (pa_cons (pe_ix ix_list (pv 1) pe_int (fun _ _ => rfl)) pa_nil)) pa_nil)) pa_nil)) (by rfl))
  (pss_cut (ps_for PassesOwn.never rfl (pi_range2 rfl T.n_range (pa_cons pe_int (pa_cons (pv 3) pa_nil))) (pg_name (i := 5) nd rfl (Or.inl rfl)) (pss_one (ps_expr (pe_bm PySem.F.plainAttrs_list PySem.F.slot_list_append PySem.F.type_list_append mt_append (pv 4) (pa_cons (pe_lst pa_nil) pa_nil)))))
  (pss_cut (ps_for PassesOwn.never rfl (pi_list (pe_slice sl_list (pv 1) (po_some pe_int) (po_some (pe_un un_neg pe_int)))) (pg_name (i := 6) nd rfl (Or.inl rfl)) (pss_cut (ps_set (i := 7) nd rfl (Or.inl rfl) (pe_has h_law_pick (hr.mono (by first | decide | omega)) (pa_cons (pv 0) (pa_cons (pv 4) pa_nil))))
  (pss_one (ps_expr (pe_bm PySem.F.plainAttrs_list PySem.F.slot_list_append PySem.F.type_list_append mt_append (pv 7) (pa_cons (pv 6) pa_nil))))))
  (pss_cut (ps_expr (pe_bm PySem.F.plainAttrs_list PySem.F.slot_list_append PySem.F.type_list_append mt_append (pv 4) (pa_cons (pe_bm PySem.F.plainAttrs_list PySem.F.slot_list_pop PySem.F.type_list_pop mt_popAt (pv 4) (pa_cons pe_int pa_nil)) pa_nil)))
  (pss_cut (ps_set (i := 7) nd rfl (Or.inl rfl) (pe_ifExp (pt_cmpR (op_eqD hu64) (pe_ix ix_list (pv 4) pe_int (fun _ _ => rfl)) (pe_lst pa_nil) (nomark _)) (pe_ix ix_list (pv 4) pe_int (fun _ _ => rfl)) (pe_has h_law_pick (hr.mono (by first | decide | omega)) (pa_cons (pv 0) (pa_cons (pe_slice sl_list (pv 4) po_none (po_some (pe_un un_neg pe_int))) pa_nil)))))
  (pss_cut (ps_expr (pe_bm PySem.F.plainAttrs_list PySem.F.slot_list_append PySem.F.type_list_append mt_append (pv 7) (pa_cons (pe_ix ix_list (pv 1) (pe_un un_neg pe_int) (fun _ _ => rfl)) pa_nil)))
  (pss_cut (ps_setLc (i := 8) (own := [("_law_lot", 7)]) rfl nd rfl rfl (sw_true rfl rfl rfl (by decide +kernel)) (pi_list (pe_callB (cr_sortLL hu64) (by rfl) T.n_sorted (by decide +kernel) (pa_cons (pe_lc (own := [("_law_lot", 7)]) rfl nd (pi_list (pv 4)) (blkOk_by (own := [("_law_lot", 7)]) (N := N_law_part) (sc := defScope s_law_part) (by decide +kernel)) (fun _ _ _ _ _ => (pg_name (i := 7) nd rfl (Or.inl rfl))) (fun _ _ _ _ _ => (pts_one (pt_cmpR (show OpR _ _ (rNeD K) from op_neD hu64) (pv 7) (pe_lst pa_nil) (nomark _)))) (fun _ _ _ _ _ => (pv 7))) pa_nil))) (blkOk_by (own := [("_law_lot", 7)]) (N := N_law_part) (sc := defScope s_law_part) (by decide +kernel)) (fun _ _ _ _ _ => (pg_name (i := 7) nd rfl (Or.inl rfl))) (fun _ _ _ _ _ => pts_nil) (fun _ _ _ _ _ => (pe_has h_law_part (hr.mono (by first | decide | omega)) (pa_cons (pv 0) (pa_cons (pv 7) (pa_cons (pv 2) pa_nil))))))
  (pss_one (ps_ret (pe_tup (pa_cons (pv 2) (pa_cons (pe_callTy call_tuple_of (by rfl) T.n_tuple (by decide +kernel) (pa_cons (pv 8) pa_nil)) pa_nil)))))))))))))), ?_⟩
      have hwas : H b ≠ none := box_some hB
      have hzl : ((zi zs).map V.int).length = zs.length := by unfold zi; rw [List.length_map, List.length_map]
      have hlen : ∀ {G : Hp} {x2 x3 x4 x5 x6 x7 x8 x9 : Option V}, G l = some (.lst ((zi zs).map V.int)) → Ev (tCB (rLenS K) (tCons (tVar 1) tNil)) [some (.ref b), some (.ref l), x2, x3, x4, x5, x6, x7, x8, x9] G (.int (zs.length : Int)) := fun {G x2 x3 x4 x5 x6 x7 x8 x9} h => by
        have := ev_len (K := K) (ev_var (σ := [some (.ref b), some (.ref l), x2, x3, x4, x5, x6, x7, x8, x9]) (i := 1) (H := G) rfl) (sq_of h)
        rwa [hzl] at this
      have hpos := List.length_pos_iff.mpr hne
      have lAt : ∀ {G : Hp}, ExB b H G → G l = some (.lst ((zi zs).map V.int)) := fun ex => ex _ _ hl hlb
      have ix0 : ∀ {G : Hp} {x2 x3 x4 x5 x6 x7 x8 x9 : Option V}, G l = some (.lst ((zi zs).map V.int)) → Ev (tOp (rIxL K) (tVar 1) (tC (.int 0))) [some (.ref b), some (.ref l), x2, x3, x4, x5, x6, x7, x8, x9] G (.int ((zs.headD 0 : Nat) : Int)) := fun {G x2 x3 x4 x5 x6 x7 x8 x9} h => by
        obtain ⟨a, r, e⟩ := List.exists_cons_of_ne_nil hne
        rw [e] at h ⊢
        exact ev_ixV (ev_var (i := 1) rfl) (sq_of h) ev_c (atI_nat (j := 0) rfl)
      refine q_when (b := decide (V.int (zs.length : Int) = V.int 1)) (et_test (ev_op (hlen hl) ev_c (rv_eq rfl))) (fun hb H1 e1 => ?_) (fun hb H1 e1 => ?_)
      · have h1 : zs.length = 1 := by have := V.int.inj (of_decide_eq_true hb); omega
        obtain ⟨z, rfl⟩ := List.length_eq_one_iff.mp h1
        refine s_ret (ix0 (e1 _ _ hl)) fun H2 e2 => k (.lev z) _ H2 (.of (e1.trans e2)) (hB.mono (e1.trans e2)) ⟨by rw [Dl.T.form], by rw [Dl.T.ord], by rw [Dl.T.levs]⟩ (fun _ _ => rfl) ?_
        rw [Dl.T.d]
        exact .int _
      · have h1 : zs.length ≠ 1 := fun z => of_decide_eq_false hb (by rw [z]; rfl)
        have h2 : 2 ≤ zs.length := by omega
        -- the word
        refine q_cut (M := fun σ' G => ∃ w' : Bool, σ' = [some (.ref b), some (.ref l), some (.str (wd w')), none, none, none, none, none, none, none] ∧ s ≠ wd w' ∧ ExB b H G ∧ Box G b) ?_ ?_
        · let qf : PyData → Bool := fun d => match d with
            | .str u => !decide (V.str u = V.str s)
            | _ => false
          have hlc := edl_lcT (K := K) (S := []) (σ := start N_law_part [.ref b, .ref l, .str s]) (H := H1) (j := 9) (vs := [9]) (t := tTest (tOp rNe (tVar 9) (tVar 2))) (te := tVar 9) (ds := [.str "all", .str "any"]) qf id Dom.nil
            (ed_tup Dom.nil (eda_cons ed_str (eda_cons ed_str eda_nil)) (show 2 ≤ 100000 by decide)) (show 2 ≤ 40000 by decide) (fun x => rfl)
            (fun d v S' G e c D' hd hv => by
              have : ∃ u, d = .str u := by
                rcases List.mem_cons.mp hd with e | hd
                · exact ⟨_, e⟩
                · exact ⟨_, List.mem_singleton.mp hd⟩
              obtain ⟨u, rfl⟩ := this
              rw [dp_str hv]
              exact et_test (ev_op (ev_var (i := 9) rfl) (ev_var (i := 2) rfl) (rv_ne rfl)))
            (fun d v S' G e c D' hd hv _ => ed_var (i := 9) rfl hv)
          have mem : ∀ d ∈ (List.filter qf [.str "all", .str "any"]).map id, ∃ w' : Bool, d = .str (wd w') ∧ s ≠ wd w' := fun d hd => by
            rw [List.map_id] at hd
            obtain ⟨m1, m2⟩ := List.mem_filter.mp hd
            rcases List.mem_cons.mp m1 with e | m1
            · subst e
              refine ⟨true, rfl, fun z => ?_⟩
              have m2' : (!decide (V.str "all" = V.str s)) = true := m2
              rw [z] at m2'
              simp [wd] at m2'
            · have e := List.mem_singleton.mp m1
              subst e
              refine ⟨false, rfl, fun z => ?_⟩
              have m2' : (!decide (V.str "any" = V.str s)) = true := m2
              rw [z] at m2'
              simp [wd] at m2'
          have some1 : (List.filter qf [.str "all", .str "any"]).map id ≠ [] := by
            rw [List.map_id]
            by_cases hs : V.str "all" = V.str s
            · refine List.ne_nil_of_mem (a := .str "any") (List.mem_filter.mpr ⟨by simp, ?_⟩)
              show (!decide (V.str "any" = V.str s)) = true
              rw [decide_eq_false fun z => absurd (V.str.inj (z.trans hs.symm)) (by decide +kernel)]
              rfl
            · refine List.ne_nil_of_mem (a := .str "all") (List.mem_filter.mpr ⟨by simp, ?_⟩)
              show (!decide (V.str "all" = V.str s)) = true
              rw [decide_eq_false hs]
              rfl
          refine ⟨_, rfl, hlc H1 (Ex.refl H1) _ fun p vs G hp e2 hG f1 => ?_⟩
          have exG : ExB b H G := .of (e1.trans e2)
          have hvl := dpa_len f1
          have hpb : p ≠ b := fun z => by
            obtain ⟨g, s', hb1, _⟩ := hB
            rw [z, e1 _ _ hb1] at hp
            cases hp
          refine ⟨b, p, vs, rfl, hB.mono (e1.trans e2), sq_of ((cut_out (by simpa using hpb)).trans hG), fun z => some1 (List.eq_nil_of_length_eq_zero (by rw [← hvl, z]; rfl)), ?_, fun i x G2 hx hb2 ex2 => ?_⟩
          · rw [hvl, List.map_id]
            exact Nat.le_trans (List.length_filter_le _ _) (by decide)
          · obtain ⟨d, hd, hxd⟩ := dpa_got f1 hx
            obtain ⟨w', rfl, hw⟩ := mem d (List.mem_of_getElem? hd)
            rw [dp_str hxd]
            exact ⟨w', rfl, hw, exG.trans ex2, hb2⟩
        · rintro σ' G ⟨w', rfl, hsw, exG, bG⟩
          -- how many, the first lot
          refine q_cut (M := fun σ' G => ∃ (m : Nat) (L a0 : Addr), σ' = [some (.ref b), some (.ref l), some (.str (wd w')), some (.int (m : Int)), some (.ref L), none, none, none, none, none] ∧ (m = 2 ∨ m = 3) ∧ Lots H b L [(a0, [zs.headD 0])] G) ?_ ?_
          · let mm : Int := if ((zs.length : Int) - 1) < 2 then (zs.length : Int) - 1 else 2
            have hmin : Ev (tCB (fun xs H Q => ∃ i j, xs = [V.int i, V.int j] ∧ Q (.int (if j < i then j else i)) H) (tCons (tC (.int 2)) (tCons (tOp (rI0 fun i j => .int (i - j)) (tCB (rLenS K) (tCons (tVar 1) tNil)) (tC (.int 1))) tNil)))
                [some (.ref b), some (.ref l), some (.str (wd w')), none, none, none, none, none, none, none] G (.int mm) :=
              ev_cb (ea_cons ev_c (ea_cons (ev_op (hlen (lAt exG)) ev_c rv_I0) ea_nil)) fun G1 _ Q q => ⟨2, (zs.length : Int) - 1, rfl, q G1 (Ex.refl G1)⟩
            have hmm : 1 ≤ mm ∧ mm ≤ 2 := by
              by_cases c : ((zs.length : Int) - 1) < 2
              · have e : mm = (zs.length : Int) - 1 := if_pos c
                rw [e]
                omega
              · have e : mm = 2 := if_neg c
                rw [e]
                omega
            refine ⟨_, rfl, hmin G (Ex.refl G) _ fun G1 e2 => ⟨b, mm, rfl, bG.mono e2, hmm.1, Int.lt_of_le_of_lt hmm.2 (by decide), fun d G2 d0 d1 b2 ex2 => ⟨2, d, rfl, rfl, ?_⟩⟩⟩
            have exG2 : ExB b H G2 := (exG.trans (.of e2)).trans ex2
            refine t_lst1 (el_lst (σ := [some (.ref b), some (.ref l), some (.str (wd w')), none, none, none, none, none, none, none]) (ea_cons (ix0 (lAt exG2)) ea_nil) (show 1 ≤ 100000 by decide)) fun a0 G3 na0 e3 h3 L hL => ?_
            refine ⟨_, _, rfl, (2 + d).toNat, L, a0, ?_, ?_, ?_⟩
            · rw [Int.toNat_of_nonneg (by omega)]
              rfl
            · have := hmm.2
              omega
            · have exG3 := exG2.trans (ExB.of e3)
              have b3 := b2.mono e3
              have nL := fresh0 exG3 b3 hL
              have aL : a0 ≠ L := fun z => by rw [← z, h3] at hL; cases hL
              exact ⟨upd_same, fun p hp => by rw [List.mem_singleton.mp hp]; exact (upd_ne aL).trans h3, by simp, fun p hp => by rw [List.mem_singleton.mp hp]; exact ⟨fresh0 exG2 b2 na0, aL⟩, nL, exG3.mut nL, box_upd b3 (fun z => hwas (z ▸ nL)), hwas⟩
          · rintro σ' G ⟨m, L, a0, rfl, hm23, hL⟩
            -- further lots
            refine q_cut (M := fun σ' G => ∃ (ls : List Lot) (x5 : Option V), σ' = [some (.ref b), some (.ref l), some (.str (wd w')), some (.int (m : Int)), some (.ref L), x5, none, none, none, none] ∧ Lots H b L ls G ∧ ls.length = m ∧ Deal [zs.headD 0] (ls.map Prod.snd) ∧ ∀ q, (ls.map Prod.snd)[0]? = some q → q ≠ []) ?_ ?_
            · refine s_forR2 (lo := 1) (n := (m : Int)) (j := 5) (ea_cons ev_c (ea_cons (ev_var (i := 3) rfl) ea_nil)) (by omega) (fun i σ' G => ∃ (ls : List Lot) (x5 : Option V), σ' = [some (.ref b), some (.ref l), some (.str (wd w')), some (.int (m : Int)), some (.ref L), x5, none, none, none, none] ∧ Lots H b L ls G ∧ ls.length = i + 1 ∧ Deal [zs.headD 0] (ls.map Prod.snd) ∧ ∀ q, (ls.map Prod.snd)[0]? = some q → q ≠ [])
                (fun G1 e2 => ⟨_, none, rfl, hL.mono e2, rfl, ⟨List.Perm.refl _, fun q hq => by rw [List.mem_singleton.mp hq]; exact List.pairwise_singleton _ _⟩, fun q hq => by simp at hq; rw [← hq]; exact fun z => nomatch z⟩) ?_ ?_
              · rintro i σ' G1 hi ⟨ls, x5, rfl, hL1, hl1, hd1, hf1⟩
                refine s_appL (l := L) (ys := []) hL1.list (ev_var (i := 4) rfl) (el_lst ea_nil (show 0 ≤ 100000 by decide)) (by rw [List.length_map]; omega) fun p G2 np e2 h2 => ⟨ls ++ [(p, [])], _, rfl, hL1.grow np e2 h2, by rw [List.length_append, hl1]; rfl, ?_, ?_⟩
                · rw [List.map_append]
                  exact hd1.grow
                · intro q hq
                  rw [List.map_append, List.getElem?_append_left (by rw [List.length_map]; omega)] at hq
                  exact hf1 q hq
              · rintro σ' G1 ⟨ls, x5, rfl, hL1, hl1, hd1, hf1⟩
                exact ⟨ls, x5, rfl, hL1, by omega, hd1, hf1⟩
            · rintro σ' G ⟨ls, x5, rfl, hL, hlm, hd, hf⟩
              -- dealing
              refine q_cut (M := fun σ' G => ∃ (ls : List Lot) (x6 x7 : Option V), σ' = [some (.ref b), some (.ref l), some (.str (wd w')), some (.int (m : Int)), some (.ref L), x5, x6, x7, none, none] ∧ Lots H b L ls G ∧ ls.length = m ∧ Deal zs.dropLast (ls.map Prod.snd) ∧ ∀ q, (ls.map Prod.snd)[0]? = some q → q ≠ []) ?_ ?_
              · have hsl := el_sl (K := K) (σ := [some (.ref b), some (.ref l), some (.str (wd w')), some (.int (m : Int)), some (.ref L), x5, none, none, none, none]) (H := G) (te := tVar 1) (tl := tPart (tC (.int 1))) (th := tPart (tUn (rU fun i => .int (-i)) (tC (.int 1)))) (ev_var (i := 1) rfl) (eo_some ev_c) (eo_some (ev_un ev_c ru_neg)) (sq_of (lAt hL.ex))
                rw [cut_mid _ (by rw [hzl]; exact h2), hzl] at hsl
                have hxl : ((((zi zs).map V.int).drop 1).take (zs.length - 2)).length = zs.length - 2 := by rw [List.length_take, List.length_drop, hzl]; omega
                have hxi : ∀ {i : Nat} {x : V}, ((((zi zs).map V.int).drop 1).take (zs.length - 2))[i]? = some x → ∃ z, zs[i + 1]? = some z ∧ x = .int ((z : Nat) : Int) ∧ i < zs.length - 2 := fun {i x} hx => by
                  have hil := (List.getElem?_eq_some_iff.mp hx).1
                  rw [hxl] at hil
                  rw [List.getElem?_take, if_pos hil, List.getElem?_drop, List.getElem?_map] at hx
                  unfold zi at hx
                  rw [List.getElem?_map, Nat.add_comm 1 i] at hx
                  cases hz : zs[i + 1]? with
                  | none => rw [hz] at hx; cases hx
                  | some z => rw [hz] at hx; exact ⟨z, rfl, (Option.some.inj hx).symm, hil⟩
                refine s_forNL (g := gName 6) hsl (fun p i σ' G => ∃ (ls : List Lot) (x6 x7 : Option V), σ' = [some (.ref b), some (.ref l), some (.str (wd w')), some (.int (m : Int)), some (.ref L), x5, x6, x7, none, none] ∧ Lots H b L ls G ∧ ls.length = m ∧ Deal (zs.take (i + 1)) (ls.map Prod.snd) ∧ (∀ q, (ls.map Prod.snd)[0]? = some q → q ≠ []) ∧ G p = some (.lst ((((zi zs).map V.int).drop 1).take (zs.length - 2))) ∧ p ≠ b ∧ ∀ q ∈ ls, p ≠ q.1) ?_ ?_ ?_ ?_
                · intro p G1 np e2 h2'
                  refine ⟨ls, none, none, rfl, hL.mono e2, hlm, ?_, hf, h2', fun z => ?_, fun q hq z => ?_⟩
                  · have e3 : zs.take (0 + 1) = [zs.headD 0] := by
                      obtain ⟨a, r, e⟩ := List.exists_cons_of_ne_nil hne
                      rw [e]
                      rfl
                    rw [e3]
                    exact hd
                  · rw [z] at np
                    exact box_some hL.box np
                  · rw [z, hL.each q hq] at np
                    cases np
                · rintro p i σ' G1 hi ⟨ls, x6, x7, rfl, _, _, _, _, hp, _⟩
                  exact sq_of hp
                · rintro p i x σ' G1 hx ⟨ls, x6, x7, rfl, hL1, hl1, hd1, hf1, hp, hpb, hpq⟩
                  obtain ⟨z, hz, rfl, hil⟩ := hxi hx
                  show tCut _ _ _ _ _
                  refine q_cut (M := fun σ' G2 => ∃ (j : Nat) (q : Lot), ls[j]? = some q ∧ σ' = [some (.ref b), some (.ref l), some (.str (wd w')), some (.int (m : Int)), some (.ref L), x5, some (.int (z : Int)), some (.ref q.1), none, none] ∧ Lots H b L ls G2 ∧ ExB b G1 G2) ?_ ?_
                  · refine ⟨_, rfl, _, rfl, b, L, _, rfl, hL1.box, sq_of ((cut_out (by simpa using (hL1.boxne hL1.newL).symm)).trans hL1.list), fun z => ?_, by rw [List.length_map]; omega, fun j y G2 hy hb2 ex2 => ?_⟩
                    · have := congrArg List.length z
                      rw [List.length_map] at this
                      simp at this
                      rw [this] at hl1
                      simp at hl1
                      omega
                    · rw [List.getElem?_map] at hy
                      obtain ⟨q, hq, rfl⟩ := Option.map_eq_some_iff.mp hy
                      exact ⟨j, q, hq, rfl, hL1.step ex2 hb2, ex2⟩
                  · rintro σ' G2 ⟨j, q, hq, rfl, hL2, ex2⟩
                    have hqm := List.mem_of_getElem? hq
                    refine s_app (l := q.1) (hL2.each q hqm) (ev_var (i := 7) rfl) (ev_var (i := 6) rfl) ?_ fun G3 e3 => ?_
                    · have := (len_two.len_one (l := ls.map Prod.snd) (i := j) (x := q.2) (by rw [List.getElem?_map, hq]; rfl))
                      rw [hd1.perm.length_eq, List.length_take] at this
                      unfold zi
                      rw [List.length_map, List.length_map]
                      omega
                    · have hjl := (List.getElem?_eq_some_iff.mp hq).1
                      refine ⟨_, _, _, rfl, (hL2.mono e3).put hq z, by rw [List.length_modify]; exact hl1, ?_, ?_, ?_, hpb, ?_⟩
                      · rw [snd_modify, List.take_succ, hz]
                        exact hd1.put (by rw [List.length_map]; exact hjl) (asc_take hasc hz)
                      · rw [snd_modify]
                        exact full_put hf1
                      · rw [upd_ne (hpq q hqm)]
                        exact e3 _ _ (ex2 _ _ hp hpb)
                      · intro r hr
                        have hf3 : r.1 ∈ ls.map Prod.fst := by
                          obtain ⟨j2, hj2⟩ := List.mem_iff_getElem?.mp hr
                          rw [get_modify] at hj2
                          obtain ⟨r2, hr2, rfl⟩ := Option.map_eq_some_iff.mp hj2
                          refine List.mem_map.mpr ⟨r2, List.mem_of_getElem? hr2, ?_⟩
                          split <;> rfl
                        obtain ⟨r2, hr2, e⟩ := List.mem_map.mp hf3
                        rw [← e]
                        exact hpq r2 hr2
                · rintro p σ' G1 ⟨ls, x6, x7, rfl, hL1, hl1, hd1, hf1, _⟩
                  refine ⟨ls, x6, x7, rfl, hL1, hl1, ?_, hf1⟩
                  rw [hxl] at hd1
                  rw [List.dropLast_eq_take, show zs.length - 1 = zs.length - 2 + 1 by omega]
                  exact hd1
              · rintro σ' G ⟨ls, x6, x7, rfl, hL, hlm, hd, hf⟩
                -- the first lot goes to the end
                refine q_cut (M := fun σ' G => ∃ (ls : List Lot), σ' = [some (.ref b), some (.ref l), some (.str (wd w')), some (.int (m : Int)), some (.ref L), x5, x6, x7, none, none] ∧ Lots H b L ls G ∧ ls.length = m ∧ Deal zs.dropLast (ls.map Prod.snd) ∧ ∀ q, (ls.map Prod.snd)[m - 1]? = some q → q ≠ []) ?_ ?_
                · cases ls with
                  | nil => simp at hlm; omega
                  | cons p r =>
                    refine ⟨_, rfl, .inl ⟨rfl, _, sq_of hL.list⟩, ⟨_, rfl, .inl ⟨rfl, _, sq_of hL.list⟩, L, _, 0, 0, .ref p.1, rfl, rfl, hL.list, by decide, by decide, ?_, rfl, L, _, _, rfl, rfl, upd_same, ?_, r ++ [p], rfl, hL.rot _, ?_, ?_, ?_⟩⟩
                    · exact (ixN_seq (ixN_nat (j := 0) (by rw [List.length_map]; exact Nat.succ_pos _))).1
                    · exact sz_lt (by rw [List.length_eraseIdx]; simp at hlm ⊢; omega)
                    · rw [List.length_append]
                      simpa using hlm
                    · rw [List.map_append]
                      exact Deal.rot (p := p.2) (qs := r.map Prod.snd) hd
                    · intro q hq
                      have hlr : r.length = m - 1 := by simp at hlm; omega
                      rw [List.map_append, List.getElem?_append_right (by rw [List.length_map]; omega), List.length_map, hlr, Nat.sub_self] at hq
                      exact hf q hq
                · rintro σ' G ⟨ls, rfl, hL, hlm, hd, hf⟩
                  -- the lot of the last lever
                  refine q_cut (M := fun σ' G => ∃ (j : Nat) (q : Lot), ls[j]? = some q ∧ j + 1 < m ∧ σ' = [some (.ref b), some (.ref l), some (.str (wd w')), some (.int (m : Int)), some (.ref L), x5, x6, some (.ref q.1), none, none] ∧ Lots H b L ls G) ?_ ?_
                  · have h0 : 0 < ls.length := by omega
                    have hq0 : ls[0]? = some ls[0] := List.getElem?_eq_getElem h0
                    have hi0 : Ev (tOp (rIxL K) (tVar 4) (tC (.int 0))) [some (.ref b), some (.ref l), some (.str (wd w')), some (.int (m : Int)), some (.ref L), x5, x6, x7, none, none] G (.ref ls[0].1) :=
                      ev_ixV (ev_var (i := 4) rfl) (sq_of hL.list) ev_c (atI_nat (j := 0) (by rw [List.getElem?_map, hq0]; rfl))
                    have hi1 : EvD K [] (tOp (rIxL K) (tVar 4) (tC (.int 0))) [some (.ref b), some (.ref l), some (.str (wd w')), some (.int (m : Int)), some (.ref L), x5, x6, x7, none, none] G (.list (nums (zi ls[0].2))) :=
                      ed_ev hi0 (.lst (sq_of ((cut_out (by simp)).trans (hL.each _ (List.getElem_mem _)))) (nums_dpa _))
                    refine et_eqD hi1 (ed_lst Dom.nil eda_nil (show 0 ≤ 100000 by decide)) (shaped_ints _) (shaped_ints []) G (Ex.refl G) _ fun G1 e2 => ?_
                    cases PyData.eqv (.list (nums (zi ls[0].2))) (.list []) with
                    | true => exact hi0 G1 e2 _ fun G2 e3 => ⟨0, _, hq0, by omega, rfl, hL.mono (e2.trans e3)⟩
                    | false =>
                      have hL1 := hL.mono e2
                      have hsl := el_sl (K := K) (σ := [some (.ref b), some (.ref l), some (.str (wd w')), some (.int (m : Int)), some (.ref L), x5, x6, x7, none, none]) (H := G1) (te := tVar 4) (tl := tNoPart) (th := tPart (tUn (rU fun i => .int (-i)) (tC (.int 1)))) (ev_var (i := 4) rfl) eo_none (eo_some (ev_un ev_c ru_neg)) (sq_of hL1.list)
                      rw [cut_butlast _ (by rw [List.length_map]; omega)] at hsl
                      refine ⟨_, rfl, hsl G1 (Ex.refl G1) _ fun p G2 np e3 h3 => ⟨b, p, _, rfl, (hL1.mono e3).box, sq_of ((cut_out (S := [b]) (b := p) (fun z => box_some hL1.box (by rw [← List.mem_singleton.mp z]; exact np))).trans h3), fun z => ?_, by rw [List.length_dropLast, List.length_map]; omega, fun j y G3 hy hb3 ex3 => ?_⟩⟩
                      · have := congrArg List.length z
                        rw [List.length_dropLast, List.length_map] at this
                        simp at this
                        omega
                      · have hjl := (List.getElem?_eq_some_iff.mp hy).1
                        rw [List.length_dropLast, List.length_map] at hjl
                        rw [List.getElem?_dropLast, if_pos (by rw [List.length_map]; exact hjl), List.getElem?_map] at hy
                        obtain ⟨q, hq, rfl⟩ := Option.map_eq_some_iff.mp hy
                        exact ⟨j, q, hq, by omega, rfl, (hL1.mono e3).step ex3 hb3⟩
                  · rintro σ' G ⟨j, q, hq, hj, rfl, hL⟩
                    have hqm := List.mem_of_getElem? hq
                    have hlast : zs.getLast? = some (zs.getLast hne) := List.getLast?_eq_some_getLast hne
                    have hzd : zs.dropLast ++ [zs.getLast hne] = zs := List.dropLast_concat_getLast hne
                    refine q_cut (M := fun σ' G => ∃ (ls : List Lot) (i j : Nat) (q q' : List Nat), σ' = [some (.ref b), some (.ref l), some (.str (wd w')), some (.int (m : Int)), some (.ref L), x5, x6, some (.ref (ls.getD j (0, [])).1), none, none] ∧ Lots H b L ls G ∧ ls.length = m ∧ Deal zs (ls.map Prod.snd) ∧ i ≠ j ∧ (ls.map Prod.snd)[i]? = some q ∧ (ls.map Prod.snd)[j]? = some q' ∧ q ≠ [] ∧ q' ≠ []) ?_ ?_
                    · refine s_app (l := q.1) (v := .int ((zs.getLast hne : Nat) : Int)) (hL.each q hqm) (ev_var (i := 7) rfl) (ev_ixV (ev_var (i := 1) rfl) (sq_of (lAt hL.ex)) (ev_un ev_c ru_neg) (atI_neg1 (by unfold zi; rw [List.getLast?_map, List.getLast?_map, hlast]; rfl))) ?_ fun G1 e2 => ?_
                      · have := (len_two.len_one (l := ls.map Prod.snd) (i := j) (x := q.2) (by rw [List.getElem?_map, hq]; rfl))
                        rw [hd.perm.length_eq, List.length_dropLast] at this
                        unfold zi
                        rw [List.length_map, List.length_map]
                        omega
                      · have hjl := (List.getElem?_eq_some_iff.mp hq).1
                        have hq2 : (ls.map Prod.snd)[m - 1]? = some (ls[m - 1]'(by omega)).2 := by rw [List.getElem?_map, List.getElem?_eq_getElem (by omega)]; rfl
                        refine ⟨_, m - 1, j, (ls[m - 1]'(by omega)).2, q.2 ++ [zs.getLast hne], ?_, (hL.mono e2).put hq (zs.getLast hne), by rw [List.length_modify]; exact hlm, ?_, by omega, ?_, ?_, hf _ hq2, by simp⟩
                        · rw [List.getD_eq_getElem?_getD, get_modify, hq]
                          simp
                        · rw [snd_modify]
                          have := hd.put (i := j) (z := zs.getLast hne) (by rw [List.length_map]; exact hjl) ?_
                          · rw [hzd] at this
                            exact this
                          · rw [List.dropLast_eq_take]
                            exact asc_take hasc (by rw [List.getLast_eq_getElem]; exact List.getElem?_eq_getElem _)
                        · rw [snd_modify, get_modify, hq2, Option.map_some, if_neg (by omega)]
                        · rw [snd_modify, get_modify, List.getElem?_map, hq]
                          simp
                    · rintro σ' G ⟨ls, i, j, q, q', rfl, hL, hlm, hd, hij, hqi, hqj, hqn, hqn'⟩
                      let ps := ls.filter fun p => !p.2.isEmpty
                      obtain ⟨rs, hrp, hrs, hro⟩ := lots_sorted ps
                      have hpm : ∀ p ∈ rs, p ∈ ls ∧ p.2 ≠ [] := fun p hp => by
                        obtain ⟨m1, m2⟩ := List.mem_filter.mp (hrp.mem_iff.mp hp)
                        exact ⟨m1, fun z => by rw [z] at m2; exact absurd m2 (by decide)⟩
                      have hflat : (rs.map Prod.snd).flatten.Perm zs := by
                        refine ((hrp.map Prod.snd).flatten).trans ?_
                        have e : ps.map Prod.snd = (ls.map Prod.snd).filter fun q => !q.isEmpty := by rw [List.filter_map]; rfl
                        rw [e, flat_full]
                        exact hd.perm
                      have hrl : rs.length = ((ls.map Prod.snd).filter fun q => !q.isEmpty).length := by
                        rw [hrp.length_eq, List.filter_map, List.length_map]
                        rfl
                      have ne_e : ∀ {q : List Nat}, q ≠ [] → (!q.isEmpty) = true := fun {q} h => by cases q with
                        | nil => exact absurd rfl h
                        | cons a r => rfl
                      have hr2 : 2 ≤ rs.length := by rw [hrl]; exact two_of hqi hqj hij (ne_e hqn) (ne_e hqn')
                      have hr3 : rs.length ≤ 3 := by
                        have := List.length_filter_le (fun q : List Nat => !q.isEmpty) (ls.map Prod.snd)
                        rw [List.length_map] at this
                        omega
                      have hasc' : ∀ q ∈ rs.map Prod.snd, q.Pairwise (· < ·) := fun q hq => by
                        obtain ⟨p, hp, rfl⟩ := List.mem_map.mp hq
                        exact hd.asc _ (List.mem_map_of_mem (hpm p hp).1)
                      have hfull : ∀ q ∈ rs.map Prod.snd, q ≠ [] := fun q hq => by
                        obtain ⟨p, hp, rfl⟩ := List.mem_map.mp hq
                        exact (hpm p hp).2
                      have hnd : (rs.map Prod.snd).flatten.Nodup := hflat.nodup_iff.mpr (hasc.imp fun h => Nat.ne_of_lt h)
                      have hheads := heads_asc hfull hnd (by rw [List.pairwise_map]; exact hro)
                      have hshort : ∀ p ∈ rs, p.2.length ≤ n ∧ p.2.length ≤ 200 := fun p hp => by
                        obtain ⟨i0, hi0⟩ := List.mem_iff_getElem?.mp (hpm p hp).1
                        have hi0' : (ls.map Prod.snd)[i0]? = some p.2 := by rw [List.getElem?_map, hi0]; rfl
                        have htot := hd.perm.length_eq
                        have l1 := List.length_pos_iff.mpr hqn
                        have l2 := List.length_pos_iff.mpr hqn'
                        by_cases e : i0 = i
                        · have := len_two hi0' hqj (by omega)
                          omega
                        · have := len_two hi0' hqi (by omega)
                          omega
                      refine q_cut (M := fun σ' G => ∃ (x7 : Option V) (Dd : Addr) (acc : List V) (ts : List Dl.T), σ' = [some (.ref b), some (.ref l), some (.str (wd w')), some (.int (m : Int)), some (.ref L), x5, x6, x7, some (.ref Dd), none] ∧ Dd ∉ S ∧ G Dd = some (.lst acc) ∧ DpAll K (cut (Dd :: S) G) acc (ts.map Dl.T.d) ∧ ts.length = rs.length ∧ (∀ (i : Nat) (t : Dl.T) (q : List Nat), ts[i]? = some t → (rs.map Prod.snd)[i]? = some q → Pt t q ∧ t.hasWord w' = false) ∧ ExB b H G ∧ Box G b) ?_ ?_
                      · let σ0 : L2.St := [some (.ref b), some (.ref l), some (.str (wd w')), some (.int (m : Int)), some (.ref L), x5, x6, some (.ref (ls.getD j (0, [])).1), none, none]
                        have hin := el_lcL (K := K) (σ := σ0) (H := G) (j := 7) (vs := [7]) (tl := tVar 4) (t := tTest (tOp (rNeD K) (tVar 7) (tLst tNil))) (te := tVar 7) (fun i => !(ls.getD i ((0, []) : Lot)).2.isEmpty) (fun i => .ref (ls.getD i ((0, []) : Lot)).1) (ev_var (i := 4) rfl) (sq_of hL.list) (by rw [List.length_map]; omega) (fun x => rfl)
                          (fun i x G1 e2 hx => by
                            rw [List.getElem?_map] at hx
                            obtain ⟨p, hp, rfl⟩ := Option.map_eq_some_iff.mp hx
                            refine et_is (et_neD (K := K) (S := []) (ed_var (i := 7) rfl (.lst (sq_of ((cut_out (by simp)).trans ((hL.mono e2).each p (List.mem_of_getElem? hp)))) (nums_dpa _))) (ed_lst Dom.nil eda_nil (show 0 ≤ 100000 by decide)) (shaped_ints _) (shaped_ints [])) ?_
                            have e3 : PyData.eqv (.list (nums (zi p.2))) (.list []) = decide (zi p.2 = []) := eqv_ints (zi p.2) []
                            rw [e3, List.getD_eq_getElem?_getD, hp]
                            show (!decide (zi p.2 = [])) = !p.2.isEmpty
                            cases hp2 : p.2 with
                            | nil => rfl
                            | cons a r => rfl)
                          (fun i x G1 e2 hx _ => by
                            rw [List.getElem?_map] at hx
                            obtain ⟨p, hp, rfl⟩ := Option.map_eq_some_iff.mp hx
                            rw [List.getD_eq_getElem?_getD, hp]
                            exact ev_var (i := 7) rfl)
                        rw [List.length_map, given_filter ((0, []) : Lot) (fun p => !p.2.isEmpty) (fun p => V.ref p.1)] at hin
                        show tAsg (tLc (iList K (tCB (rSortLL K) (tCons (tLc (iList K (tVar 4)) (gName 7) (tTest (tOp (rNeD K) (tVar 7) (tLst tNil))) (tVar 7) [7]) tNil))) (gName 7) tYes _ [7]) (gName 8) _ σ0 G
                        refine lc_open (K := K) ?_
                        refine t_cbL hin fun a1 G1 na1 e2 h2' => ⟨a1, ps.map encL, rfl, sq_of (by rw [List.map_map]; exact h2'), fun p hp => ?_, fun a2 na2 => ?_⟩
                        · obtain ⟨p', hp', rfl⟩ := List.mem_map.mp hp
                          exact .lst (sq_of ((hL.mono e2).each p' (List.mem_filter.mp hp').1)) (nums_dpa _)
                        rw [hrs, List.map_map]
                        have e3 : Ex G1 (upd G1 a2 (.lst (rs.map (Prod.fst ∘ encL)))) := Ex.new na2
                        generalize hG2 : upd G1 a2 (.lst (rs.map (Prod.fst ∘ encL))) = G2 at e3
                        have ha2 : G2 a2 = some (.lst (rs.map (Prod.fst ∘ encL))) := by rw [← hG2]; exact upd_same
                        have hL2 := hL.mono (e2.trans e3)
                        have D2 : Dom S G2 := fun x hx => by
                          by_cases e : x = b
                          · rw [e]; exact box_some hL2.box
                          · cases hc : H x with
                            | none => exact absurd hc (D x hx)
                            | some o => rw [hL2.ex x o hc e]; exact fun z => nomatch z
                        have a2b : a2 ≠ b := fun z => box_some (hL.mono e2).box (z ▸ na2)
                        refine ⟨a2, rfl, ⟨_, sq_of ha2⟩, fun Dd hDd => ?_⟩
                        have DbS : Dd ∉ S := D2.new hDd
                        have Ddb : Dd ≠ b := fun z => box_some hL2.box (z ▸ hDd)
                        refine lc_list (xs := rs.map (Prod.fst ∘ encL)) (fun i G' => ∃ (acc : List V) (ts : List Dl.T), G' Dd = some (.lst acc) ∧ acc.length = i ∧ ts.length = i ∧ (∀ (j : Nat) (t : Dl.T) (q : List Nat), ts[j]? = some t → (rs.map Prod.snd)[j]? = some q → Pt t q ∧ t.hasWord w' = false) ∧ DpAll K (cut (Dd :: S) G') acc (ts.map Dl.T.d) ∧ ExB b G2 G' ∧ Box G' b)
                          ⟨[], [], upd_same, rfl, rfl, (fun j t q h => by simp at h), .nil, (ExB.of (Ex.refl G2)).mut hDd, box_upd hL2.box Ddb.symm⟩ (fun i G' _ ⟨_, _, _, _, _, _, _, ex, _⟩ => sq_of (ex _ _ ha2 a2b)) ?_ ?_
                        · rintro i x G3 hx ⟨acc, ts, hDG, hacc, hts, hpt, hda, exG3, bG3⟩
                          rw [List.getElem?_map] at hx
                          obtain ⟨p, hp, rfl⟩ := Option.map_eq_some_iff.mp hx
                          have hpr := List.mem_of_getElem? hp
                          obtain ⟨hpl, hpn⟩ := hpm p hpr
                          have hil := (List.getElem?_eq_some_iff.mp hp).1
                          refine ⟨rfl, ?_⟩
                          have D3 : Dom (Dd :: S) G3 := fun x hx => by
                            rcases List.mem_cons.mp hx with e | hx
                            · rw [e, hDG]; exact fun z => nomatch z
                            · by_cases e : x = b
                              · rw [e]; exact box_some bG3
                              · cases hc : G2 x with
                                | none => exact absurd hc (D2 x hx)
                                | some o => rw [exG3 x o hc e]; exact fun z => nomatch z
                          have pb : p.1 ≠ b := (hL2.boxne (hL2.new p hpl).1).symm
                          refine ⟨_, rfl, _, rfl, _, rfl, Dd :: S, b, p.1, wd w', p.2, rfl, D3, List.mem_cons_of_mem _ hbS, bG3, pb, exG3 _ _ (hL2.each p hpl) pb, hasc' _ (List.mem_map_of_mem hpr), hpn, (hshort p hpr).1, (hshort p hpr).2, fun t y G4 ex4 b4 ptt htw hy => ?_⟩
                          have exin := ExB.inS (S := Dd :: S) (List.mem_cons_of_mem _ hbS) ex4
                          refine ⟨acc, ex4 _ _ hDG Ddb, sz_lt (by omega), acc ++ [y], ts ++ [t], upd_same, by rw [List.length_append, hacc]; rfl, by rw [List.length_append, hts]; rfl, ?_, ?_, (exG3.trans ex4).mut hDd, box_upd b4 Ddb.symm⟩
                          · intro j t' q hj hq
                            by_cases hji : j < i
                            · rw [List.getElem?_append_left (by omega)] at hj
                              exact hpt j t' q hj hq
                            · have hjl := (List.getElem?_eq_some_iff.mp hj).1
                              rw [List.length_append, hts] at hjl
                              have e : j = i := by simp at hjl; omega
                              subst e
                              rw [List.getElem?_append_right (by omega), hts, Nat.sub_self] at hj
                              simp at hj
                              subst hj
                              rw [List.getElem?_map, hp] at hq
                              simp at hq
                              subst hq
                              exact ⟨ptt, htw w' rfl⟩
                          · rw [cut_upd List.mem_cons_self, List.map_append]
                            exact dpa_app (dpa_mono exin _ hda) (dpa_one hy)
                        · rintro G3 ⟨acc, ts, hDG, hacc, hts, hpt, hda, exG3, bG3⟩
                          rw [List.length_map] at hts
                          exact ⟨_, Dd, acc, ts, rfl, DbS, hDG, hda, hts, hpt, hL2.ex.trans exG3, bG3⟩
                      · rintro σ' G ⟨x7, Dd, acc, ts, rfl, hDS, hDG, hda, hts, hpt, exG, bG⟩
                        have DG : Dom S G := fun x hx => by
                          by_cases e : x = b
                          · rw [e]; exact box_some bG
                          · cases hc : H x with
                            | none => exact absurd hc (D x hx)
                            | some o => rw [exG x o hc e]; exact fun z => nomatch z
                        have hlist : Dp K (cut S G) (.ref Dd) (.list (ts.map Dl.T.d)) := .lst (sq_of ((cut_out hDS).trans hDG)) (dpa_mono (cut_sub fun b hb => List.mem_cons_of_mem _ hb) _ hda)
                        refine sd_ret (K := K) (S := S) (d := (Dl.T.knot w' ts).d) ?_ fun y G1 e2 hy => k _ y G1 (exG.trans (.of e2)) (bG.mono e2) (pt_knot (by rw [List.length_map]; exact hts) hpt (by omega) (by omega) hflat hasc' hfull hheads) (fun w e => ?_) hy
                        · rw [Dl.T.d, Dl.T.ds_map]
                          exact ed_tup DG (eda_cons (ed_var (i := 2) rfl (.str _)) (eda_cons (ed_tupOfD DG (ed_var (i := 8) rfl hlist) fun p ys H1 Q hs hk => ⟨p, ys, rfl, .inl ⟨hs, hk⟩⟩) eda_nil)) (show 2 ≤ 100000 by decide)
                        · show (w' == w) = false
                          rw [beq_eq_false_iff_ne]
                          exact fun z => hsw (z ▸ e)
end
end Dl

set_option Elab.async false
set_option maxRecDepth 100000
set_option maxHeartbeats 4000000
set_option linter.all false
/-! a lever that is not there -/
namespace Dl
open PySem L2 Evl Dt Dk
def belowD (x : PyData) (n : Int) : Bool := isNumD x && (match x with | .int i => decide (i < n) | _ => false)
section
variable {P : Program} {w : World} {K : PySem.W.Frag} {mg : Str → Option Value} {base : Heap} {f C Cn fI pF : Addr} {fd : FuncData}
def spCheckBad (K : PySem.W.Frag) (Cn : Addr) : Sp := fun vs H _ E => ∃ (S : List Addr) (v : V) (x : PyData) (n : Int), vs = [v, .int n] ∧ Dom S H ∧ Dp K (cut S H) v x ∧ belowD x n = false ∧
  ∀ (d : Addr) (H' : Hp), Ex H H' → H' d = none → E (.ref Cn) (some d) (upd H' d (.xd [(("lever" : Str), v)]))
theorem ok_check_bad (F : Fun K "check_lever" "check_lever" s_check_lever f fd) (N : NoL K mg Cn fI) (h_is_below : Has P w K mg base 3 "is_below" ["value", "limit"] (spBelow K)) : FnOk P w K mg base (L2.CX P w) 4 f fd ["lever", "many"] (spCheckBad K Cn) := by
  refine F.okX sc_check_lever (fun vs H Q E h => ?_) (fun cdv A outer s H vs Q E hr h => ?_)
  · obtain ⟨S, v, x, n, rfl, _⟩ := h
    rfl
  · obtain ⟨S, v, x, n, rfl, D, hv, hx, k⟩ := h
    have nd := sc_check_lever.nd
    refine ⟨_, pss_one (ps_if (pt_not (pt_val (pe_has h_is_below (hr.mono (by decide)) (pa_cons (pv 0) (pa_cons (pv 1) pa_nil))))) (pss_one (ps_raise rfl (takes_of rfl rfl rfl rfl) (pmk_nol N hr (pa_cons (pv 0) pa_nil)))) pss_nil), ?_⟩
    have v0 : EvD K S (tVar 0) (start N_check_lever [v, .int n]) H x := ed_var (i := 0) rfl hv
    have v1 : EvD K S (tVar 1) (start N_check_lever [v, .int n]) H (.int n) := ed_var (i := 1) rfl (.int n)
    have hb : Ev (tCall (spBelow K) [] E0 (tCons (tVar 0) (tCons (tVar 1) tNil))) (start N_check_lever [v, .int n]) H (.bl (belowD x n)) :=
      EvD.bl (K := K) (S := S) (ed_call (R := fun ds d => ∃ x n, ds = [x, .int n] ∧ d = .bool (isNumD x && (match x with | .int i => decide (i < n) | _ => false))) D (eda_cons v0 (eda_cons v1 eda_nil)) ⟨x, n, rfl, rfl⟩)
    rw [hx] at hb
    exact s_when (b := true) (et_not (et_B hb)) (fun _ H1 e1 => ⟨_, rfl, _, rfl, fun d hd => k d H1 e1 hd⟩) (fun z => nomatch z)
def spCountBad (K : PySem.W.Frag) (Cn : Addr) : Sp := fun vs H _ E => ∃ (S : List Addr) (v u : V) (t0 : T) (x : PyData), vs = [v, u] ∧ Dom S H ∧ Dp K (cut S H) v t0.d ∧ Good t0 ∧ Dp K (cut S H) u x ∧ belowD x (t0.levs.length : Int) = false ∧
  ∀ (d : Addr) (H' : Hp), Ex H H' → H' d = none → E (.ref Cn) (some d) (upd H' d (.xd [(("lever" : Str), u)]))
theorem ok_hung_bad {fc : Addr} {fdc : FuncData} (F : Fun K "hung_count" "hung_count" s_hung_count f fd) (Z : WT K C) (T : Nf K mg pF) (h_tree_walk : Has P w K mg base 5 "tree_walk" ["value"] (spTree K C))
    (Gc : FnOk P w K mg base (L2.CX P w) 4 fc fdc ["lever", "many"] (spCheckBad K Cn)) (gm : mg "check_lever" = some (.ref fc)) (gk : PySem.W.keepIn K (.ref fc) = true) (gb : Binds K fdc ["lever", "many"] [])
    (h_ways_by_row : Has P w K mg base 2 "ways_by_row" ["walk", "ways"] (spWays K C)) (h_product_of : Has P w K mg base 1 "product_of" ["numbers"] (spProd K)) :
    FnOk P w K mg base (L2.CX P w) 6 f fd ["tree", "lever"] (spCountBad K Cn) := by
  refine F.okX sc_hung_count (fun vs H Q E h => ?_) (fun cdv A' outer s H vs Q E hr h => ?_)
  · obtain ⟨S, v, u, t0, x, rfl, _⟩ := h
    rfl
  · obtain ⟨S, v, u, t0, x, rfl, D, hv, G0, hu0, hx, k⟩ := h
    have nd := sc_hung_count.nd
    have hu := hu_of hr
    refine ⟨_, pss_cons (ps_set (i := 2) nd rfl (Or.inl rfl) (pe_has h_tree_walk (hr.mono (by first | decide | omega)) (pa_cons (pv 0) pa_nil))) (pss_cut (ps_expr (pe_callS Gc (hr.mono (by decide)) rfl gm gk gb (fun σ => passAt (takes_of rfl rfl rfl rfl) σ) (pa_cons (pv 1) (pa_cons (pe_fld (pv 2) rfl) pa_nil)))) (PSs.nox (pss_cons (ps_set (i := 3) nd rfl (Or.inr rfl) (pe_has h_ways_by_row (hr.mono (by first | decide | omega)) (pa_cons (pv 2) (pa_cons (pe_op op_rep (pe_lst (pa_cons (pe_gc T.g_FREE) pa_nil)) (pe_fld (pv 2) rfl)) pa_nil))))
  (pss_cons (ps_set (i := 4) nd rfl (Or.inl rfl) pe_int)
  (pss_cons (ps_set (i := 5) nd rfl (Or.inr rfl) (pe_dget hu (pe_fld (pv 2) rfl) (pv 1) (fun _ _ => rfl)))
  (pss_cons (ps_while PassesOwn.never (pt_cmpR op_ge (pe_ix ix_list (pe_fld (pv 2) rfl) (pv 5) (fun _ _ => rfl)) pe_int (nomark _)) (pss_cons (ps_set (i := 6) nd rfl (Or.inl rfl) (pe_ix ix_list (pe_fld (pv 2) rfl) (pv 5) (fun _ _ => rfl)))
  (pss_cons (ps_set (i := 7) nd rfl (Or.inr rfl) (pe_ifExp (pt_cmpR op_eq (pe_ix ix_list (pe_fld (pv 2) rfl) (pv 6) (fun _ _ => rfl)) pe_str (nomark _)) pe_int pe_int))
  (pss_cons (ps_set (i := 4) nd rfl (Or.inl rfl) (pe_op op_mul (pv 4) (pe_has h_product_of (hr.mono (by first | decide | omega)) (pa_cons (pe_lc (own := [("part", 8)]) rfl nd (pi_list (pe_ix ix_list (pe_fld (pv 2) rfl) (pv 6) (fun _ _ => rfl))) (blkOk_by (own := [("part", 8)]) (N := N_hung_count) (sc := defScope s_hung_count) (by decide +kernel)) (fun _ _ _ _ _ => (pg_name (i := 8) nd rfl (Or.inl rfl))) (fun _ _ _ _ _ => (pts_one (pt_cmpR op_ne (pv 8) (pv 5) (nomark _)))) (fun _ _ _ _ _ => (pe_ix (show IxR _ (rIxT K) from ix_tup) (pe_ix (show IxR _ (rIxL K) from ix_list) (pv 3) (pv 8) (fun _ _ => rfl)) (pv 7) (fun _ _ => rfl)))) pa_nil))))
  (pss_one (ps_set (i := 5) nd rfl (Or.inr rfl) (pv 6)))))))
  (pss_one (ps_ret (pv 4))))))))), ?_⟩
    refine ⟨_, rfl, S, v, t0, rfl, D, hv, G0, fun H1 A n rs kvs W R e1 new => ?_⟩
    have hn := rows_many R
    show tCut _ _ _ [some v, some u, some (.ref A.a), none, none, none, none, none, none] H1
    refine q_cut (M := fun _ _ => False) ?_ (fun _ _ z => z.elim)
    refine (ev_many Z W (ev_var (i := 2) rfl) : Ev (tFld K (tVar 2) "many") [some v, some u, some (.ref A.a), none, none, none, none, none, none] H1 (.int n)) |> fun hm => ?_
    exact ⟨_, rfl, hm H1 (Ex.refl H1) _ fun H2 e2 => ⟨S, u, x, n, rfl, D.mono (e1.trans e2), dp_mono (cut_mono (e1.trans e2)) _ hu0, by rw [hn]; exact hx, fun d H' e hd => k d H' (e1.trans (e2.trans e)) hd⟩⟩
end
end Dl

set_option Elab.async false
set_option maxRecDepth 100000
set_option maxHeartbeats 2000000
set_option linter.all false
/-! what can be shown -/
namespace Dl
open PySem L2 Evl Dt
/-- d can be shown, and its text is not too long -/
structure Shw (d : PyData) : Prop where
  able : d.showable = true
  deep : d.depth ≤ 64
  short : d.shown.length ≤ sizeLine
def Lil (x : Int) : Prop := 0 ≤ x ∧ x ≤ 32
theorem lil_all {f : Int → Bool} (h : ∀ k : Fin 33, f ((k.val : Nat) : Int) = true) {x : Int} (hx : Lil x) : f x = true := by
  obtain ⟨k, rfl⟩ := Int.eq_ofNat_of_zero_le hx.1
  exact h ⟨k, by have := hx.2; omega⟩
theorem lil_short : ∀ k : Fin 33, PyData.intsShort 13 (.int ((k.val : Nat) : Int)) = true := by decide +kernel
theorem lil_show : ∀ k : Fin 33, PyData.showable (.int ((k.val : Nat) : Int)) = true := by decide +kernel
theorem lil_weight : ∀ k : Fin 33, decide (PyData.weight (.int ((k.val : Nat) : Int)) ≤ 6) = true := by decide +kernel
theorem nums_show : ∀ {a : List Int}, (∀ x ∈ a, Lil x) → PyData.showableAll (nums a) = true ∧ PyData.intsShortAll 13 (nums a) = true ∧ PyData.weightAll (nums a) ≤ 7 * a.length
  | [], _ => by
    unfold nums
    rw [List.map_nil, PyData.showableAll, PyData.intsShortAll, PyData.weightAll]
    exact ⟨rfl, rfl, Nat.zero_le _⟩
  | x :: a, h => by
    obtain ⟨h1, h2, h3⟩ := nums_show (a := a) fun y hy => h y (List.mem_cons_of_mem _ hy)
    have hx := h x List.mem_cons_self
    have w := of_decide_eq_true (lil_all (f := fun x => decide (PyData.weight (.int x) ≤ 6)) lil_weight hx)
    unfold nums at *
    rw [List.map_cons, PyData.showableAll, PyData.intsShortAll, PyData.weightAll, lil_all (f := fun x => PyData.showable (.int x)) lil_show hx, lil_all (f := fun x => PyData.intsShort 13 (.int x)) lil_short hx, h1, h2, List.length_cons]
    exact ⟨rfl, rfl, by omega⟩
theorem shw_list {a : List Int} (h : ∀ x ∈ a, Lil x) (hl : a.length ≤ 1000) : Shw (.list (nums a)) := by
  obtain ⟨h1, h2, h3⟩ := nums_show h
  have hd : (PyData.list (nums a)).depth ≤ 64 := by rw [PyData.depth, depth_ints]; decide
  refine ⟨by rw [PyData.showable]; exact h1, hd, Nat.le_trans (PyProof.Rows.shown_le13 ?_ (by rw [PyData.intsShort]; exact h2)) (by rw [sizeLine_eq]; decide)⟩
  unfold PyData.layable0
  rw [PyData.canLay0, lay_ints, decide_eq_true hd, PyData.weight, decide_eq_true (by omega)]
  rfl
theorem shw_two {a b : List Int} (ha : ∀ x ∈ a, Lil x) (hb : ∀ x ∈ b, Lil x) (la : a.length ≤ 1000) (lb : b.length ≤ 1000) : Shw (twoT (a, b)) := by
  obtain ⟨a1, a2, a3⟩ := nums_show ha
  obtain ⟨b1, b2, b3⟩ := nums_show hb
  have hd : (twoT (a, b)).depth ≤ 64 := by
    unfold twoT
    rw [PyData.depth, PyData.depthAll, PyData.depthAll, PyData.depthAll, PyData.depth, PyData.depth, depth_ints, depth_ints]
    decide
  refine ⟨?_, hd, Nat.le_trans (PyProof.Rows.shown_le13 ?_ ?_) (by rw [sizeLine_eq]; decide)⟩
  · unfold twoT
    rw [PyData.showable, PyData.showableAll, PyData.showableAll, PyData.showableAll, PyData.showable, PyData.showable, a1, b1]
    rfl
  · have a4 : PyData.weightAll (nums (a, b).fst) ≤ 7 * a.length := a3
    have b4 : PyData.weightAll (nums (a, b).snd) ≤ 7 * b.length := b3
    unfold PyData.layable0
    rw [decide_eq_true hd]
    unfold twoT
    rw [PyData.canLay0, PyData.canLayAll0, PyData.canLayAll0, PyData.canLayAll0, PyData.canLay0, PyData.canLay0, lay_ints, lay_ints, PyData.weight, PyData.weightAll, PyData.weightAll, PyData.weightAll, PyData.weight, PyData.weight, decide_eq_true (by omega)]
    rfl
  · unfold twoT
    rw [PyData.intsShort, PyData.intsShortAll, PyData.intsShortAll, PyData.intsShortAll, PyData.intsShort, PyData.intsShort, a2, b2]
    rfl
theorem shaped_two (p : List Int × List Int) : SeqAt.shaped (twoT p) = true := by
  unfold SeqAt.shaped twoT
  rw [PyData.canLay0, PyData.canLayAll0, PyData.canLayAll0, PyData.canLayAll0, PyData.canLay0, PyData.canLay0, lay_ints, lay_ints, PyData.depth, PyData.depthAll, PyData.depthAll, PyData.depthAll, PyData.depth, PyData.depth, depth_ints, depth_ints]
  rfl
theorem eqv_two (p : List Int × List Int) : PyData.eqv (twoT p) (twoT p) = true := by
  unfold twoT
  rw [PyData.eqv, PyData.eqvAll, PyData.eqvAll, PyData.eqvAll, eqvT_ints, eqvT_ints, decide_eq_true rfl, decide_eq_true rfl]
  rfl
theorem lil_pow {n : Nat} (h : n ≤ 5) : (2 : Int) ^ n ≤ 32 := by
  have : n = 0 ∨ n = 1 ∨ n = 2 ∨ n = 3 ∨ n = 4 ∨ n = 5 := by omega
  rcases this with e | e | e | e | e | e <;> subst e <;> decide
theorem sm_01 {φ : (Nat → Bool) → Int} (h : ∀ a, 0 ≤ φ a ∧ φ a ≤ 1) : ∀ (L : List Nat) (a : Nat → Bool), 0 ≤ sm L φ a ∧ sm L φ a ≤ 2 ^ L.length
  | [], a => by
    have := h a
    exact ⟨this.1, this.2⟩
  | l :: L, a => by
    have h1 := sm_01 h L (upA a l false)
    have h2 := sm_01 h L (upA a l true)
    rw [sm, List.length_cons, Int.pow_succ]
    omega
theorem hc_rng {t : T} (hf : t.form = true) (nd : t.levs.Nodup) (z : Nat) : 0 ≤ t.hc z ∧ t.hc z ≤ 2 ^ t.levs.length := by
  by_cases hz : z ∈ t.levs
  · rw [← hcT t hf nd z hz true (fun _ => false)]
    refine sm_01 (fun a => ?_) _ _
    split
    · exact ⟨by decide, by decide⟩
    · exact ⟨by decide, by decide⟩
  · rw [hc_zero hz]
    exact ⟨Int.le_refl _, Int.le_of_lt (Int.pow_pos (by decide))⟩
/-- the tree that is drawn -/
theorem Pt.good {t : T} {n : Nat} (h : Pt t (List.range n)) (hn : n ≤ 30) : Good t ∧ t.levs.length = n := by
  have hl : t.levs.length = n := by rw [h.perm.length_eq, List.length_range]
  have hb := bounds t h.form
  exact ⟨⟨h.form, h.ord, by rw [hl]; exact h.perm, by omega, by omega⟩, hl⟩
end Dl

set_option Elab.async false
set_option maxRecDepth 100000
set_option maxHeartbeats 4000000
set_option linter.all false
/-! calls with keywords alone; pairs of data -/
namespace Dt
open PySem PySem.Spec PyProof.Rows L2
def HasKw (P : Program) (w : World) (K : PySem.W.Frag) (mg : Str → Option Value) (base : Heap) (k : Nat) (x : Str) (ps ks : List Str) (g : List Value → List Value → List Value) (gV : List V → List V → List V) (sp : Sp) : Prop :=
  ∃ f fd, FnOk P w K mg base CX0 k f fd ps sp ∧ mg x = some (.ref f) ∧ PySem.W.keepIn K (.ref f) = true ∧ KBinds K fd ps ks g gV
section
variable {X : Cx} {k : Nat} {x : Str} {ps ks : List Str} {g : List Value → List Value → List Value} {gV : List V → List V → List V} {sp : Sp} {p pos : Pos} {kws : List Keyword} {tk : TA}
theorem pe_hasKw (h : HasKw X.prog X.w X.K X.mg X.base k x ps ks g gV sp) (hr : Room k X.A) (hkw : PK X kws tk) (gl : Gl X x := by rfl) (hall : (backToKw pos (keywordEach kws X.env)).all (·.1.isSome) = true := by rfl)
    (hks : (backToKw pos (keywordEach kws X.env)).filterMap (·.1) = ks := by rfl) (hdb : (x == ("__debug__" : Str)) = false := by decide)
    (hpl : ((backTo pos (starEach [] X.env)).any (·.1) || (backToKw pos (keywordEach kws X.env)).any (·.1.isNone)) = false := by rfl) : PE X (.Call (.Name x p) [] kws pos) (tCallK sp gV E0 tNil tk) := by
  obtain ⟨f, fd, F, hm, kp, b⟩ := h
  refine ⟨fun pins s σ H Q I h => wpAny_Call_Name_kw (ld_glob I gl hm (PySem.W.callWith_KW0 (h₀ := X.base) I.ok.mod.kin kp hall (thn (hkw.run pos pins s σ H _ I h) fun ws s2 hh => ?_) hpl) hdb)⟩
  obtain ⟨zs, H2, I2, rz, q⟩ := hh
  refine ⟨I2.kIn, ?_⟩
  rw [hks]
  exact run_fnk (us := []) F hr b pass0 I2 .nil rz q
end
/-- one keyword, the only parameter's; two, the other way round -/
def kw1 {α : Type} : List α → List α → List α
  | [], [a] => [a]
  | _, _ => []
def kw2 {α : Type} : List α → List α → List α
  | [], [a, b] => [b, a]
  | _, _ => []
theorem kw1_rel {vs : List V} {us : List Value} {zs : List V} {ws : List Value} (h1 : Vals vs us) (h2 : Vals zs ws) : Vals (kw1 vs zs) (kw1 us ws) := by
  cases h1 with
  | cons _ _ => exact .nil
  | nil =>
    cases h2 with
    | nil => exact .nil
    | cons a t =>
      cases t with
      | nil => exact .cons a .nil
      | cons _ _ => exact .nil
theorem kw2_rel {vs : List V} {us : List Value} {zs : List V} {ws : List Value} (h1 : Vals vs us) (h2 : Vals zs ws) : Vals (kw2 vs zs) (kw2 us ws) := by
  cases h1 with
  | cons _ _ => exact .nil
  | nil =>
    cases h2 with
    | nil => exact .nil
    | cons a t =>
      cases t with
      | nil => exact .nil
      | cons b r =>
        cases r with
        | nil => exact .cons b (.cons a .nil)
        | cons _ _ => exact .nil
section
variable {K : PySem.W.Frag} {st : Stmt} {f : Addr} {fd : FuncData} {x qual p1 p2 : Str}
theorem kb1 (F : Fun K x qual st f fd) (h : ∀ (kV doc pm : Value) (an : Option Addr) (cdv ct a : Value), bindArgs (PySem.W.fnOf x qual (defArgs st) (defBody st) (defScope st) .none kV doc pm an cdv ct) ⟨[], [(p1, a)]⟩ = pure [(p1, a)]) : KBinds K fd [p1] [p1] kw1 kw1 := by
  obtain ⟨oc, od, kV, doc, pm, an, cdv, ct, osl, rfl, lk, hcd⟩ := F.ex
  refine ⟨fun s us ws _ hl => ?_, kw1_rel⟩
  match us, ws, hl with
  | [], [a], _ => exact .of_eq (h kV doc pm an cdv ct a)
theorem kb2 (F : Fun K x qual st f fd) (h : ∀ (kV doc pm : Value) (an : Option Addr) (cdv ct a b : Value), bindArgs (PySem.W.fnOf x qual (defArgs st) (defBody st) (defScope st) .none kV doc pm an cdv ct) ⟨[], [(p2, a), (p1, b)]⟩ = pure [(p1, b), (p2, a)]) : KBinds K fd [p1, p2] [p2, p1] kw2 kw2 := by
  obtain ⟨oc, od, kV, doc, pm, an, cdv, ct, osl, rfl, lk, hcd⟩ := F.ex
  refine ⟨fun s us ws _ hl => ?_, kw2_rel⟩
  match us, ws, hl with
  | [], [a, b], _ => exact .of_eq (h kV doc pm an cdv ct a b)
end
end Dt
namespace Dt
open PySem L2 Evl
section
variable {K : PySem.W.Frag} {S : List Addr} {σ : L2.St} {H : Hp} {te : TE} {D : Ends} {tz : TS} {d e : PyData}
/-- x, y = a pair of data -/
theorem q_pairD {n i j : Nat} (hn : n = 2) (h : EvD K S te σ H (.tuple [d, e])) (k : ∀ x y H1, Ex H H1 → Dp K (cut S H1) x d → Dp K (cut S H1) y e → tz D ((σ.set i (some x)).set j (some y)) H1) : tSeq (tAsg te (gTup K n (gCons (gName i) (gCons (gName j) gNil)))) tz D σ H :=
  h H (Ex.refl H) _ fun v H1 e1 hd => by
    obtain ⟨p, xs, rfl, hq, hx⟩ := dp_tup hd
    obtain ⟨x, y, rfl, h1, h2⟩ := dpa2 hx
    exact ⟨p, _, rfl, ex_t (cut_le S H1) hq, hn.symm, _, [_], rfl, _, [], rfl, rfl, k x y H1 e1 h1 h2⟩
theorem s_pairD {n i j : Nat} (hn : n = 2) (h : EvD K S te σ H (.tuple [d, e])) (k : ∀ x y H1, Ex H H1 → Dp K (cut S H1) x d → Dp K (cut S H1) y e → D.nx ((σ.set i (some x)).set j (some y)) H1) : tAsg te (gTup K n (gCons (gName i) (gCons (gName j) gNil))) D σ H :=
  h H (Ex.refl H) _ fun v H1 e1 hd => by
    obtain ⟨p, xs, rfl, hq, hx⟩ := dp_tup hd
    obtain ⟨x, y, rfl, h1, h2⟩ := dpa2 hx
    exact ⟨p, _, rfl, ex_t (cut_le S H1) hq, hn.symm, _, [_], rfl, _, [], rfl, rfl, k x y H1 e1 h1 h2⟩
theorem room_u70 {k : Nat} {A : Around} (r : Room k A) : A.units + 70 < cLine := by
  have := r.un
  omega
theorem ev_repr (h : EvD K S te σ H d) (h1 : d.showable = true) (h2 : d.depth ≤ 64) (h3 : d.shown.length ≤ sizeLine) : Ev (tCB (rRepr K) (tCons te tNil)) σ H (.str d.shown) := fun H1 x Q q =>
  h H1 x _ fun v H2 e2 f => ⟨v, d, rfl, dp_mono (cut_le S H2) d f, h1, h2, h3, q H2 e2⟩
end
end Dt

set_option Elab.async false
set_option maxRecDepth 100000
set_option maxHeartbeats 4000000
set_option linter.all false
/-! near: small trees, by all settings -/
namespace Dl
open PySem L2 Evl Dt Dk
def suiteT (K : PySem.W.Frag) (Cn : Addr) : Addr → Value → Option Addr → TS := fun a cls d =>
  tRet (tAndV (tOp rEq (tCB (rRepr K) (tCons (tXf a cls d Cn "lever" (tVar 7)) tNil)) (tCB (rRepr K) (tCons (tVar 6) tNil))) (tCB (rIsK K Cn a cls d) (tCons (tVar 7) (tCons (tC (.ty "KeyError")) tNil))))
theorem odd_ok {m : Nat} {x : PyData} (h : x ∈ [PyData.int (m : Int), .int (0 - 1), .bool true, .none, .str "0", .tuple [.int 0]]) (hm : m ≤ 5) : Shw x ∧ belowD x (m : Int) = false := by
  have tx : ∀ y : PyData, y.showable = true → y.depth ≤ 64 → y.shown.length ≤ 64 → Shw y := fun y a b c => ⟨a, b, Nat.le_trans c (by rw [sizeLine_eq]; decide)⟩
  simp only [List.mem_cons, List.mem_nil_iff, or_false] at h
  rcases h with rfl | rfl | rfl | rfl | rfl | rfl
  · refine ⟨?_, ?_⟩
    · have : m = 0 ∨ m = 1 ∨ m = 2 ∨ m = 3 ∨ m = 4 ∨ m = 5 := by omega
      rcases this with e | e | e | e | e | e <;> subst e <;> exact tx _ (by decide +kernel) (by decide +kernel) (by decide +kernel)
    · show (isNumD (.int (m : Int)) && decide ((m : Int) < (m : Int))) = false
      rw [decide_eq_false (by omega), Bool.and_false]
  · exact ⟨tx _ (by decide +kernel) (by decide +kernel) (by decide +kernel), rfl⟩
  · exact ⟨tx _ (by decide +kernel) (by decide +kernel) (by decide +kernel), rfl⟩
  · exact ⟨tx _ (by decide +kernel) (by decide +kernel) (by decide +kernel), rfl⟩
  · exact ⟨tx _ (by decide +kernel) (by decide +kernel) (by decide +kernel), rfl⟩
  · exact ⟨tx _ (by decide +kernel) (by decide +kernel) (by decide +kernel), rfl⟩
theorem hung_lil {t : T} (B : HB t) (h5 : t.levs.length ≤ 5) : (∀ x ∈ t.hung.1, Lil x) ∧ ∀ x ∈ t.hung.2, Lil x := by
  have hp := lil_pow h5
  have hs := B.sum
  have n1 := Nn.sum B.dark.nn
  have n2 := Nn.sum B.burn.nn
  exact ⟨fun x hx => ⟨B.dark.nn x hx, by have := B.dark.nn.le_sum x hx; omega⟩, fun x hx => ⟨B.burn.nn x hx, by have := B.burn.nn.le_sum x hx; omega⟩⟩
section
variable {P : Program} {w : World} {K : PySem.W.Frag} {mg : Str → Option Value} {base : Heap} {f C Cn fI pF : Addr} {fd : FuncData}
def spNear : Sp := fun vs H Q _ => ∃ b, vs = [.ref b] ∧ Box H b ∧ ∀ H', ExB b H H' → Q (.bl true) H'
abbrev s_law_near_right : Stmt := topS 43
abbrev N_law_near_right : List Str := ["_law_box_here", "_law_many", "_law_tree", "_law_rows", "_law_levers", "_law_due", "_law_odd", "e", "_law_lever"]
theorem sc_law_near_right : FnScope N_law_near_right ["_law_box_here"] (defScope s_law_near_right) := ⟨rfl, rfl, rfl, by decide +kernel, rfl, by decide +kernel, by decide +kernel⟩

theorem ok_near {fb : Addr} {fdb : FuncData} (F : Fun K "_law_near_right" "_law_near_right" s_law_near_right f fd) (T : Nm mg) (N : NoL K mg Cn fI)
    (h_law_pick : Has P w K mg base 2 "_law_pick" ["_law_box_here", "_law_some"] (spPick K)) (h_law_part : Has P w K mg base 8 "_law_part" ["_law_box_here", "_law_levers", "_law_word"] (spPart K 5))
    (h_law_listed : Has P w K mg base 8 "_law_listed" ["_law_tree", "_law_many"] (spListed K 5)) (h_law_bare : Has P w K mg base 1 "_law_bare" ["_law_row"] (spBare K))
    (h_hung_numbers : Has P w K mg base 6 "hung_numbers" ["tree"] (spHung K)) (h_hung_count : Has P w K mg base 6 "hung_count" ["tree", "lever"] (spCount K))
    (h_kw_numbers : HasKw P w K mg base 6 "hung_numbers" ["tree"] ["tree"] kw1 kw1 (spHung K)) (h_kw_count : HasKw P w K mg base 6 "hung_count" ["tree", "lever"] ["lever", "tree"] kw2 kw2 (spCount K))
    (Gb : FnOk P w K mg base (L2.CX P w) 6 fb fdb ["tree", "lever"] (spCountBad K Cn)) (gm : mg "hung_count" = some (.ref fb)) (gk : PySem.W.keepIn K (.ref fb) = true) (gb : Binds K fdb ["tree", "lever"] []) :
    FnG P w K mg base CX0 9 f fd ["_law_box_here"] spNear := by
  refine fng F sc_law_near_right (fun vs H Q E h => ?_) (fun cdv A' outer s H vs Q E hg hr h => ?_)
  · obtain ⟨b, rfl, _⟩ := h
    rfl
  · obtain ⟨b, rfl, hB, k⟩ := h
    have nd := sc_law_near_right.nd
    have hu64 := hr.units
    have hu70 := room_u70 hr
    refine ⟨_, (pss_cut (ps_set (i := 1) nd rfl (Or.inl rfl) (pe_has h_law_pick (hr.mono (by first | decide | omega)) (pa_cons (pv 0) (pa_cons (pe_lst (pa_cons pe_int (pa_cons pe_int (pa_cons pe_int (pa_cons pe_int (pa_cons pe_int pa_nil)))))) pa_nil))))
  (pss_cut (ps_set (i := 2) nd rfl (Or.inr rfl) (pe_has h_law_part (hr.mono (by first | decide | omega)) (pa_cons (pv 0) (pa_cons (pe_listRg rfl rfl T.n_list (prg_1 rfl T.n_range (pv 1))) (pa_cons pe_str pa_nil)))))
  (pss_cut (ps_asg (pe_has h_law_listed (hr.mono (by first | decide | omega)) (pa_cons (pv 2) (pa_cons (pv 1) pa_nil))) (pg_tup rfl (pgs_cons (pg_name (i := 3) nd rfl (Or.inl rfl)) (pgs_cons (pg_name (i := 4) nd rfl (Or.inl rfl)) pgs_nil))))
  (pss_cut (ps_set (i := 5) nd rfl (Or.inl rfl) (pe_tup (pa_cons (pe_has h_law_bare (hr.mono (by first | decide | omega)) (pa_cons (pe_ix ix_list (pv 3) pe_int (fun _ _ => rfl)) pa_nil)) (pa_cons (pe_has h_law_bare (hr.mono (by first | decide | omega)) (pa_cons (pe_ix ix_list (pv 3) pe_int (fun _ _ => rfl)) pa_nil)) pa_nil))))
  (pss_cons (ps_if (PW.pt (pw_or (pt_cmpR op_ne (pe_callB (call_reprD hg hu70) (by rfl) T.n_repr (by decide +kernel) (pa_cons (pe_has h_hung_numbers (hr.mono (by first | decide | omega)) (pa_cons (pv 2) pa_nil)) pa_nil)) (pe_callB (call_reprD hg hu70) (by rfl) T.n_repr (by decide +kernel) (pa_cons (pv 5) pa_nil)) (nomark _)) (pw_or1 (pt_cmpR (op_neD hu64) (pe_hasKw h_kw_numbers (hr.mono (by first | decide | omega)) (pk_cons (pv 2) pk_nil)) (pv 5) (nomark _))))) (pss_one (ps_ret pe_bl)) pss_nil)
  (pss_cons (ps_if (PW.pt (pw_or (pt_cmpR op_ne (pe_callB (call_reprD hg hu70) (by rfl) T.n_repr (by decide +kernel) (pa_cons (pe_lc (own := [("_law_lever", 8)]) rfl nd (pi_range1 rfl T.n_range (pa_cons (pv 1) pa_nil)) (blkOk_by (own := [("_law_lever", 8)]) (N := N_law_near_right) (sc := defScope s_law_near_right) (by decide +kernel)) (fun _ _ _ _ _ => (pg_name (i := 8) nd rfl (Or.inl rfl))) (fun _ _ _ _ _ => pts_nil) (fun _ _ _ _ _ => (pe_has h_hung_count (hr.mono (by first | decide | omega)) (pa_cons (pv 2) (pa_cons (pv 8) pa_nil))))) pa_nil)) (pe_callB (call_reprD hg hu70) (by rfl) T.n_repr (by decide +kernel) (pa_cons (pv 4) pa_nil)) (nomark _)) (pw_or1 (pt_cmpR op_ne (pe_hasKw h_kw_count (hr.mono (by first | decide | omega)) (pk_cons pe_int (pk_cons (pv 2) pk_nil))) (pe_ix ix_list (pv 4) pe_int (fun _ _ => rfl)) (nomark _))))) (pss_one (ps_ret pe_bl)) pss_nil)
  (pss_cut (ps_set (i := 6) nd rfl (Or.inl rfl) (pe_has h_law_pick (hr.mono (by first | decide | omega)) (pa_cons (pv 0) (pa_cons (pe_lst (pa_cons (pv 1) (pa_cons (pe_op op_sub pe_int pe_int) (pa_cons pe_bl (pa_cons pe_non (pa_cons pe_str (pa_cons (pe_tup (pa_cons pe_int pa_nil)) pa_nil))))))) pa_nil))))
  (pss_cut (ps_try_as (i := 7) (tb := fun W => tDrop (tCallS (spCountBad K Cn) (WE W) (tCons (tVar 2) (tCons (tVar 6) tNil)))) (ts := suiteT K Cn) (Wout := fun _ _ _ _ => False) rfl rfl nd rfl rfl ⟨rfl, by decide, Or.inl N.gC⟩ takes0 (fun W pn xe tk _ => pss_one (ps_expr (by exact (pe_callS Gb (hr.mono (by first | decide | omega)) rfl gm gk gb (fun σ => passAt tk σ) (by exact (pa_cons (pv 2) (pa_cons (pv 6) pa_nil))))))) (fun a oe cls d pn hz hf => pss_one (ps_ret (pe_and (pe_cmpR op_eq (pe_callB (call_reprD hg hu70) (by rfl) T.n_repr (by decide +kernel) (pa_cons (pe_xf (nol_xf N) N.noN hz hf (pv 7)) pa_nil)) (pe_callB (call_reprD hg hu70) (by rfl) T.n_repr (by decide +kernel) (pa_cons (pv 6) pa_nil)) (nomark _)) (pe_one (pe_callB (call_isK N hz hf) (by rfl) T.n_isinstance (by decide +kernel) (pa_cons (pv 7) (pa_cons (pe_bltn (v := .ty "KeyError") (u := .type "KeyError") (by rfl) T.n_KeyError (by decide +kernel) rfl) pa_nil))))))))
  (pss_one (ps_ret pe_bl)))))))))), ?_⟩
    have hwas := box_some hB
    have dom : ∀ {G : Hp}, Box G b → Dom [b] G := fun h x hx => by rw [List.mem_singleton.mp hx]; exact box_some h
    -- how many
    refine q_cut (M := fun σ' G => ∃ m : Nat, σ' = [some (.ref b), some (.int (m : Int)), none, none, none, none, none, none, none] ∧ 1 ≤ m ∧ m ≤ 5 ∧ ExB b H G ∧ Box G b) ?_ ?_
    · have hl : EvL (tLst (tCons (tC (.int 3)) (tCons (tC (.int 4)) (tCons (tC (.int 5)) (tCons (tC (.int 2)) (tCons (tC (.int 1)) tNil)))))) (start N_law_near_right [.ref b]) H [.int 3, .int 4, .int 5, .int 2, .int 1] :=
        el_lst (ea_cons ev_c (ea_cons ev_c (ea_cons ev_c (ea_cons ev_c (ea_cons ev_c ea_nil))))) (show 5 ≤ 100000 by decide)
      refine ⟨_, rfl, hl H (Ex.refl H) _ fun p G np e2 hG => ⟨b, p, _, rfl, hB.mono e2, sq_of ((cut_out (S := [b]) (b := p) (fun z => hwas (by rw [← List.mem_singleton.mp z]; exact np))).trans hG), List.cons_ne_nil _ _, (show 5 ≤ 1000 by decide), fun i x G2 hx hb2 ex2 => ?_⟩⟩
      have hxm := List.mem_of_getElem? hx
      simp only [List.mem_cons, List.mem_nil_iff, or_false] at hxm
      have ex := (ExB.of e2).trans ex2
      rcases hxm with rfl | rfl | rfl | rfl | rfl
      · exact ⟨3, rfl, by decide, by decide, ex, hb2⟩
      · exact ⟨4, rfl, by decide, by decide, ex, hb2⟩
      · exact ⟨5, rfl, by decide, by decide, ex, hb2⟩
      · exact ⟨2, rfl, by decide, by decide, ex, hb2⟩
      · exact ⟨1, rfl, by decide, by decide, ex, hb2⟩
    · rintro σ' G0 ⟨m, rfl, hm1, hm5, ex0, b0⟩
      -- the tree
      refine q_cut (M := fun σ' G => ∃ (t : Dl.T) (vt : V), σ' = [some (.ref b), some (.int (m : Int)), some vt, none, none, none, none, none, none] ∧ Pt t (List.range m) ∧ Dp K (cut [b] G) vt t.d ∧ ExB b H G ∧ Box G b) ?_ ?_
      · have hl := el_rg (σ := [some (.ref b), some (.int (m : Int)), none, none, none, none, none, none, none]) (H := G0) (n := m) (by omega) (rg_1 (ta := tVar 1) (ev_var (i := 1) rfl))
        refine ⟨_, rfl, hl G0 (Ex.refl G0) _ fun l G1 nl e1 hl1 => ⟨[b], b, l, "", List.range m, rfl, dom (b0.mono e1), List.mem_singleton_self b, b0.mono e1, fun z => box_some b0 (z ▸ nl), hl1, List.pairwise_lt_range, fun z => ?_, by rw [List.length_range]; exact hm5, by rw [List.length_range]; omega, fun t y G2 ex2 b2 pt _ hy => ⟨t, y, rfl, pt, hy, (ex0.trans (.of e1)).trans ex2, b2⟩⟩⟩
        have := congrArg List.length z
        rw [List.length_range] at this
        simp at this
        omega
      · rintro σ' G1 ⟨t, vt, rfl, pt, hvt, ex1, b1⟩
        obtain ⟨good, hlen⟩ := pt.good (by omega)
        have hbd := bounds t pt.form
        have B := hb t pt.form
        have D1 := dom b1
        obtain ⟨top1, top2⟩ := top_hung t pt.form
        have hg1 := fun k => (listed_getD pt.form pt.perm k).1
        have hg2 := fun k => (listed_getD pt.form pt.perm k).2
        obtain ⟨ll1, ll2, ll3⟩ := listed_len t m (allS m).length
        obtain ⟨la1, tk1⟩ := bare_of top1 (by rw [ll1]; have := B.lenD; omega) hg1
        obtain ⟨la2, tk2⟩ := bare_of top2 (by rw [ll2]; have := B.lenB; omega) hg2
        -- the lists
        refine q_cut (M := fun σ' G => ∃ (vr vl : V), σ' = [some (.ref b), some (.int (m : Int)), some vt, some vr, some vl, none, none, none, none] ∧ Dp K (cut [b] G) vr (.list [.list (nums (listed t m (allS m).length).1), .list (nums (listed t m (allS m).length).2.1)]) ∧ Dp K (cut [b] G) vl (.list (nums (listed t m (allS m).length).2.2)) ∧ Ex G1 G) ?_ ?_
        · have hli : EvD K [b] (tCall (spListed K 5) [] E0 (tCons (tVar 2) (tCons (tVar 1) tNil))) [some (.ref b), some (.int (m : Int)), some vt, none, none, none, none, none, none] G1 (listD (listed t m (allS m).length)) := fun H1 e Q q =>
            ⟨_, rfl, _, rfl, [b], vt, t, m, rfl, D1.mono e, dp_mono (cut_mono e) _ hvt, pt.form, by omega, by omega, fun z hz => List.mem_range.mp (pt.perm.mem_iff.mp hz), fun y H2 e2 hy => q y H2 e2 hy⟩
          exact s_pairD rfl hli fun x y H1 e h1 h2 => ⟨x, y, rfl, h1, h2, e⟩
        · rintro σ' G2 ⟨vr, vl, rfl, hvr, hvl, e12⟩
          have D2 := D1.mono e12
          -- what is due
          refine q_cut (M := fun σ' G => ∃ (vd : V), σ' = [some (.ref b), some (.int (m : Int)), some vt, some vr, some vl, some vd, none, none, none] ∧ Dp K (cut [b] G) vd (twoT t.hung) ∧ Ex G2 G) ?_ ?_
          · let σ2 : L2.St := [some (.ref b), some (.int (m : Int)), some vt, some vr, some vl, none, none, none, none]
            have r0 : EvD K [b] (tOp (rIxL K) (tVar 3) (tC (.int 0))) σ2 G2 (.list (nums (listed t m (allS m).length).1)) := ed_ixL (ed_var (i := 3) rfl hvr) ed_int rfl
            have r1 : EvD K [b] (tOp (rIxL K) (tVar 3) (tC (.int 1))) σ2 G2 (.list (nums (listed t m (allS m).length).2.1)) := ed_ixL (ed_var (i := 3) rfl hvr) ed_int rfl
            have br : ∀ {te : TE} {ns : List Int} {L : Nat}, EvD K [b] te σ2 G2 (.list (nums ns)) → ns.length ≤ 1000 → LastAt ns L → EvD K [b] (tCall (spBare K) [] E0 (tCons te tNil)) σ2 G2 (tupD (ns.take (L + 1))) := fun {te ns L} h1 h2 h3 H1 e Q q =>
              h1 H1 e _ fun v H2 e2 f2 => ⟨[b], v, ns, L, rfl, D2.mono (e.trans e2), f2, h2, h3, fun y H3 e3 hy => q y H3 (e2.trans e3) hy⟩
            have b0' := br r0 (by rw [ll1]; omega) la1
            have b1' := br r1 (by rw [ll2]; omega) la2
            rw [tk1] at b0'
            rw [tk2] at b1'
            exact sd_asg (K := K) (S := [b]) (d := twoT t.hung) (ed_tup D2 (eda_cons b0' (eda_cons b1' eda_nil)) (show 2 ≤ 100000 by decide)) fun v H1 e hv => ⟨v, rfl, hv, e⟩
          · rintro σ' G3 ⟨vd, rfl, hvd, e23⟩
            have D3 := D2.mono e23
            have e13 := e12.trans e23
            let σ3 : L2.St := [some (.ref b), some (.int (m : Int)), some vt, some vr, some vl, some vd, none, none, none]
            have hvt3 := dp_mono (cut_mono e13) _ hvt
            have hvl3 := dp_mono (cut_mono e23) _ hvl
            obtain ⟨lil1, lil2⟩ := hung_lil B (by omega)
            have l1 : t.hung.1.length ≤ 1000 := by have := B.lenD; omega
            have l2 : t.hung.2.length ≤ 1000 := by have := B.lenB; omega
            have sh := shw_two lil1 lil2 l1 l2
            have hn1 : EvD K [b] (tCall (spHung K) [] E0 (tCons (tVar 2) tNil)) σ3 G3 (twoT t.hung) := fun H1 e Q q =>
              ⟨_, rfl, [b], vt, t, rfl, D3.mono e, dp_mono (cut_mono e) _ hvt3, good, by omega, fun y H2 e2 hy => q y H2 e2 hy⟩
            have hn2 : EvD K [b] (tCallK (spHung K) kw1 E0 tNil (tCons (tVar 2) tNil)) σ3 G3 (twoT t.hung) := fun H1 e Q q =>
              ⟨_, rfl, [b], vt, t, rfl, D3.mono e, dp_mono (cut_mono e) _ hvt3, good, by omega, fun y H2 e2 hy => q y H2 e2 hy⟩
            have hd3 : EvD K [b] (tVar 5) σ3 G3 (twoT t.hung) := ed_var (i := 5) rfl hvd
            refine q_when (b := false) (et_is (et_or (et_test (ev_op (ev_repr hn1 sh.able sh.deep sh.short) (ev_repr hd3 sh.able sh.deep sh.short) (rv_ne rfl))) fun _ => et_neD hn2 hd3 (shaped_two _) (shaped_two _)) ?_) (fun z => nomatch z) fun _ G4 e34 => ?_
            · rw [eqv_two, decide_eq_true rfl]
              rfl
            · have e14 := e13.trans e34
              have D4 := D3.mono e34
              have hvt4 := dp_mono (cut_mono e34) _ hvt3
              have hvl4 := dp_mono (cut_mono e34) _ hvl3
              rw [listed_lev pt.form pt.perm] at hvl4
              let hcs : List Int := (List.range m).map fun z => t.hc z
              have hl1 : hcs.length = m := by show ((List.range m).map _).length = m; rw [List.length_map, List.length_range]
              have cntE : ∀ {te : TE} {σ : L2.St} {G : Hp} {z : Nat}, Ex G4 G → σ[2]? = some (some vt) → Ev te σ G (.int (z : Int)) → z < m → Ev (tCall (spCount K) [] E0 (tCons (tVar 2) (tCons te tNil))) σ G (.int (t.hc z)) := fun {te σ G z} eG h2 hz hlt H1 e Q q =>
                ⟨_, h2, hz H1 e _ fun H2 e2 => ⟨[b], vt, t, z, rfl, D4.mono (eG.trans (e.trans e2)), dp_mono (cut_mono (eG.trans (e.trans e2))) _ hvt4, good, by omega, by omega, fun H3 e3 => q H3 (e2.trans e3)⟩⟩
              have lil3 : ∀ x ∈ hcs, Lil x := fun x hx => by
                obtain ⟨z, hz, rfl⟩ := List.mem_map.mp hx
                obtain ⟨hc0, hc1⟩ := hc_rng pt.form good.nd z
                have := lil_pow (n := t.levs.length) (by omega)
                exact ⟨hc0, by omega⟩
              have sh3 := shw_list lil3 (by omega)
              have hlc := el_lcR1 (σ := σ3) (H := G4) (j := 8) (vs := [8]) (n := (m : Int)) (t := tYes) (te := tCall (spCount K) [] E0 (tCons (tVar 2) (tCons (tVar 8) tNil))) (fun _ => true) (fun z => .int (t.hc z)) (ea_cons (ev_var (i := 1) rfl) ea_nil) (by omega) (fun x => rfl) (fun i H1 e hi => et_none) (fun i H1 e hi _ => cntE e rfl (ev_var (i := 8) rfl) (by omega))
              have eg : given (m : Int).toNat (fun _ => true) (fun z => V.int (t.hc z)) = hcs.map V.int := by
                unfold given
                rw [Int.toNat_natCast, List.filter_eq_self.mpr fun _ _ => rfl, List.map_map]
                rfl
              rw [eg] at hlc
              have c0 : Ev (tCallK (spCount K) kw2 E0 tNil (tCons (tC (.int 0)) (tCons (tVar 2) tNil))) σ3 G4 (.int (t.hc 0)) := fun H1 e Q q =>
                ⟨_, rfl, [b], vt, t, 0, rfl, D4.mono e, dp_mono (cut_mono e) _ hvt4, good, by omega, by omega, fun H3 e3 => q H3 e3⟩
              have hle : EvD K [b] (tVar 4) σ3 G4 (.list (nums hcs)) := ed_var (i := 4) rfl hvl4
              have c1 : Ev (tOp (rIxL K) (tVar 4) (tC (.int 0))) σ3 G4 (.int (t.hc 0)) := EvD.int (K := K) (S := [b]) (ed_ixL hle ed_int (atI_nat (j := 0) (by show ((hcs.map PyData.int))[0]? = _; rw [List.getElem?_map, List.getElem?_map, List.getElem?_range (by omega)]; rfl)))
              refine q_when (b := false) (et_is (et_or (et_test (ev_op (ev_repr (ed_ofIntsS D4 hlc) sh3.able sh3.deep sh3.short) (ev_repr hle sh3.able sh3.deep sh3.short) (rv_ne rfl))) fun _ => et_test (ev_op c0 c1 (rv_ne rfl))) ?_) (fun z => nomatch z) fun _ G5 e45 => ?_
              · rw [decide_eq_true rfl, decide_eq_true rfl]
                rfl
              · have e15 := e14.trans e45
                have b5 := b1.mono e15
                have D5 := dom b5
                -- an odd value
                refine q_cut (M := fun σ' G => ∃ (u : V) (x : PyData), σ' = [some (.ref b), some (.int (m : Int)), some vt, some vr, some vl, some vd, some u, none, none] ∧ Dp K (cut [b] G) u x ∧ Shw x ∧ belowD x (m : Int) = false ∧ ExB b G5 G ∧ Box G b) ?_ ?_
                · have hls : EvDL K [b] (tLst (tCons (tVar 1) (tCons (tOp (rI0 fun i j => .int (i - j)) (tC (.int 0)) (tC (.int 1))) (tCons (tC (.bl true)) (tCons (tC .non) (tCons (tC (.str "0")) (tCons (tTup (tCons (tC (.int 0)) tNil)) tNil))))))) σ3 G5 [.int (m : Int), .int (0 - 1), .bool true, .none, .str "0", .tuple [.int 0]] :=
                    edl_lst (eda_cons (ed_I (ev_var (i := 1) rfl)) (eda_cons (ed_I (ev_op ev_c ev_c rv_I0)) (eda_cons ed_bl (eda_cons ed_non (eda_cons ed_str (eda_cons (ed_tup D5 (eda_cons ed_int eda_nil) (show 1 ≤ 100000 by decide)) eda_nil)))))) (show 6 ≤ 100000 by decide)
                  refine ⟨_, rfl, hls G5 (Ex.refl G5) _ fun p vs G np e2 hG f1 => ?_⟩
                  have hvl := dpa_len f1
                  refine ⟨b, p, vs, rfl, b5.mono e2, sq_of ((cut_out (S := [b]) (b := p) (fun z => box_some b5 (by rw [← List.mem_singleton.mp z]; exact np))).trans hG), fun z => ?_, by rw [hvl]; show 6 ≤ 1000; decide, fun i x G2 hx hb2 ex2 => ?_⟩
                  · rw [z] at hvl
                    cases hvl
                  · obtain ⟨d, hd, hxd⟩ := dpa_got f1 hx
                    obtain ⟨s1, s2⟩ := odd_ok (List.mem_of_getElem? hd) hm5
                    exact ⟨x, d, rfl, dp_mono (ExB.inS List.mem_cons_self ex2) _ (dp_mono (cut_sub fun y hy => List.mem_cons_of_mem _ hy) _ hxd), s1, s2, (ExB.of e2).trans ex2, hb2⟩
                · rintro σ' G6 ⟨u, x, rfl, hu, shx, hbx, ex56, b6⟩
                  have e16 : Ex (cut [b] G1) (cut [b] G6) := (cut_mono e15).trans (ExB.inS List.mem_cons_self ex56)
                  have ex06 : ExB b H G6 := (ex1.trans (.of e15)).trans ex56
                  refine q_cut (M := fun _ _ => False) ?_ (fun _ _ z => z.elim)
                  refine ⟨_, rfl, _, rfl, [b], vt, u, t, x, rfl, dom b6, dp_mono e16 _ hvt, good, hu, by rw [hlen]; exact hbx, fun d G7 e67 hd => ⟨true, nol_exm N, fun _ a ha => ?_, fun z => nomatch z⟩⟩
                  let G8 := upd G7 d (.xd [(("lever" : Str), u)])
                  let σ8 : L2.St := [some (.ref b), some (.int (m : Int)), some vt, some vr, some vl, some vd, some u, some (.ref a), none]
                  have e68 : Ex G6 G8 := e67.trans (Ex.new hd)
                  have hu8 : Dp K (cut [b] G8) u x := dp_mono (cut_mono e68) _ hu
                  have hdd : G8 d = some (.xd [(("lever" : Str), u)]) := upd_same
                  have lv : EvD K [b] (tXf a (.ref Cn) (some d) Cn "lever" (tVar 7)) σ8 G8 x := fun H1 e Q q =>
                    ⟨_, rfl, rfl, rfl, d, _, u, rfl, e _ _ hdd, by simp [List.lookup], q u H1 (Ex.refl H1) (dp_mono (cut_mono e) _ hu8)⟩
                  have od : EvD K [b] (tVar 6) σ8 G8 x := ed_var (i := 6) rfl hu8
                  have ik : Ev (tCB (rIsK K Cn a (.ref Cn) (some d)) (tCons (tVar 7) (tCons (tC (.ty "KeyError")) tNil))) σ8 G8 (.bl true) := fun H1 e Q q =>
                    ⟨_, rfl, .ty "KeyError", .type "KeyError", true, d, _, rfl, rfl, rfl, fun u h => h, N.key, e _ _ hdd, q H1 (Ex.refl H1)⟩
                  have eqs : Ev (tOp rEq (tCB (rRepr K) (tCons (tXf a (.ref Cn) (some d) Cn "lever" (tVar 7)) tNil)) (tCB (rRepr K) (tCons (tVar 6) tNil))) σ8 G8 (.bl (decide (V.str x.shown = V.str x.shown))) :=
                    ev_op (ev_repr lv shx.able shx.deep shx.short) (ev_repr od shx.able shx.deep shx.short) (rv_eq rfl)
                  rw [decide_eq_true rfl] at eqs
                  exact s_ret (v := .bl true) (ev_andV eqs fun _ => ik) fun G9 e89 => k G9 (ex06.trans (.of (e68.trans e89)))
end
end Dl

set_option Elab.async false
set_option maxRecDepth 100000
set_option maxHeartbeats 4000000
set_option linter.all false
/-! sum() and min() of tuples of ints -/
namespace Dt
open PySem L2 Evl PyProof.Rows
def rSumT (K : PySem.W.Frag) : List V → Hp → VK → Prop := fun vs H Q => ∃ (a : Addr) (ns : List Int), vs = [V.ref a] ∧ SqT K H a (ns.map V.int) ∧ Q (.int ns.sum) H
def rMinT (K : PySem.W.Frag) : List V → Hp → VK → Prop := fun vs H Q => ∃ (a : Addr) (ns : List Int), vs = [V.ref a] ∧ SqT K H a (ns.map V.int) ∧ 0 < ns.length ∧ ∀ m, m ∈ ns → (∀ y, y ∈ ns → m ≤ y) → Q (.int m) H
section
variable {prog : Program} {w : World} {A : Around} {E : Value → Shared → Prop} {s : Shared} {t : Addr}
theorem min_tupG {xs : Array (Int × Tok)} {Q : Value → Shared → Prop} (hh : A.handled = none) (ht : s.heap.IsTuple t (intItems xs)) (hne : 0 < xs.size)
    (h : ∀ v h' tk, (intItems xs)[argBest (fun i j => decide (numAt xs i < numAt xs j)) (xs.size - 1)]? = some v → (∀ b o, s.heap.get? b = some o → h'.get? b = some o) → Q v { s with heap := h', toks := tk }) :
    wpAny (model prog w) A (call (.builtin "min") [.ref t]) Q E s := by
  obtain ⟨o, ho, _⟩ := id ht
  have tne : t ≠ s.heap.objs.size := Nat.ne_of_lt (Heap.lt_size ho)
  have sz : (intItems xs).size = xs.size := by simp [intItems]
  refine call_min_walk (wpAny_pyIter_tuple ht ?_)
  refine ⟨_, [_, t], [_], _, _, _, _, rfl, Walks.tuple (A := A.in1) hh _ t tne (intItems xs), ⟨⟨_, Heap.get?_push_size _ rfl, rfl, rfl⟩, ht.at fun o e => Heap.get?_push_of_some _ e⟩, fun b hb => ?_, by rw [sz]; exact hne, CmpOf.ints_lt (numAt xs) (fun _ _ => intItems_at), fun v h' tk hP hk => ?_⟩
  · rcases List.mem_cons.mp hb with rfl | hb
    · exact Heap.lt_size (Heap.get?_push_size _ rfl)
    · obtain rfl := List.mem_singleton.mp hb
      exact Heap.lt_size (Heap.get?_push_of_some _ ho)
  · rw [sz] at hP
    exact h v h' tk hP fun b o e => hk b o (fun hm => absurd (Heap.lt_size e) ((List.mem_singleton.mp hm) ▸ Nat.lt_irrefl _)) (Heap.get?_push_of_some _ e)
theorem sum_tup_raw {its : List Value} {ns : List Int} {Q : Value → Shared → Prop} (hh : A.handled = none) (ht : s.heap.IsTuple t its.toArray) (hi : IntsAre its ns)
    (h : ∀ h' tk t', (∀ b o, s.heap.get? b = some o → h'.get? b = some o) → Q (.int ns.sum t') { s with heap := h', toks := tk }) : wpAny (model prog w) A (call (.builtin "sum") [.ref t]) Q E s := by
  obtain ⟨xs, e⟩ := hi.allInts.items
  have hn : numsOf (intItems xs).toList = ns := by rw [← e]; exact hi.numsOf
  rw [nums_intItems] at hn
  rw [e] at ht
  refine PySem.W.ktm_sumG hh ht fun h' tk t' hk => ?_
  have q := h h' tk t' hk
  rw [preSum_eq, List.take_of_length_le (by simp), hn]
  exact q
theorem min_tup_raw {its : List Value} {ns : List Int} {Q : Value → Shared → Prop} (hh : A.handled = none) (ht : s.heap.IsTuple t its.toArray) (hi : IntsAre its ns) (hne : 0 < ns.length)
    (h : ∀ h' tk M t', (∀ b o, s.heap.get? b = some o → h'.get? b = some o) → M ∈ ns → (∀ a, a ∈ ns → M ≤ a) → Q (.int M t') { s with heap := h', toks := tk }) : wpAny (model prog w) A (call (.builtin "min") [.ref t]) Q E s := by
  obtain ⟨xs, e⟩ := hi.allInts.items
  have hn : numsOf (intItems xs).toList = ns := by rw [← e]; exact hi.numsOf
  rw [nums_intItems] at hn
  subst hn
  rw [e] at ht
  have hsz : 0 < xs.size := by simpa using hne
  refine min_tupG hh ht hsz fun v h' tk hv hk => ?_
  obtain ⟨t', rfl⟩ := intItems_at hv
  obtain ⟨h1, h2⟩ := argBest_lt (numAt xs) (xs.size - 1)
  refine h h' tk _ t' hk ?_ fun a ha => ?_
  · rw [numAt_eq]
    exact PySem.getD_mem (by rw [List.length_map, Array.length_toList]; omega)
  · obtain ⟨j, hj, rfl⟩ := mem_getD ha
    rw [List.length_map, Array.length_toList] at hj
    rw [← numAt_eq]
    exact h2 j (by omega)
end
section
variable {X : Cx}
theorem cr_sumT (hc : X.calm = true) : CallR X (.builtin "sum") (rSumT X.K) := by
  intro pins s σ H vs us Q I r h
  obtain ⟨a, ns, rfl, hs, q⟩ := h
  obtain ⟨its, rv, ht, _⟩ := I.tuple hs
  rw [Vals.ref1 r]
  exact sum_tup_raw (I.ok.hd hc) ht rv.ints fun h' tk t' hk => ⟨.int _, H, I.kept hk, ⟨_, rfl⟩, q⟩
theorem cr_minT (hc : X.calm = true) : CallR X (.builtin "min") (rMinT X.K) := by
  intro pins s σ H vs us Q I r h
  obtain ⟨a, ns, rfl, hs, hne, q⟩ := h
  obtain ⟨its, rv, ht, _⟩ := I.tuple hs
  rw [Vals.ref1 r]
  exact min_tup_raw (I.ok.hd hc) ht rv.ints hne fun h' tk m t' hk h1 h2 => ⟨.int _, H, I.kept hk, ⟨_, rfl⟩, q m h1 h2⟩
end
section
variable {K : PySem.W.Frag} {S : List Addr} {σ : L2.St} {H : Hp} {te tb : TE} {ns : List Int}
theorem dt_ints {v : V} {H : Hp} (h : Dp K H v (.tuple (nums ns))) : ∃ a, v = .ref a ∧ SqT K H a (ns.map V.int) := by
  obtain ⟨a, xs, rfl, hs, hx⟩ := dp_tup h
  rw [dpa_ints hx] at hs
  exact ⟨a, rfl, hs⟩
theorem ev_sumT (h : EvD K S te σ H (.tuple (nums ns))) : Ev (tCB (rSumT K) (tCons te tNil)) σ H (.int ns.sum) := fun H1 e Q q =>
  h H1 e _ fun v H2 e2 f => by
    obtain ⟨a, rfl, hs⟩ := dt_ints f
    exact ⟨a, ns, rfl, ex_t (cut_le S H2) hs, q H2 e2⟩
theorem ev_minT {m : Int} (h : EvD K S te σ H (.tuple (nums ns))) (hn : 0 < ns.length) (hm : m ∈ ns) (hl : ∀ y ∈ ns, m ≤ y) : Ev (tCB (rMinT K) (tCons te tNil)) σ H (.int m) := fun H1 e Q q =>
  h H1 e _ fun v H2 e2 f => by
    obtain ⟨a, rfl, hs⟩ := dt_ints f
    refine ⟨a, ns, rfl, ex_t (cut_le S H2) hs, hn, fun m' h3 h4 => ?_⟩
    rw [show m' = m from Int.le_antisymm (h4 m hm) (hl m' h3)]
    exact q H2 e2
theorem ev_lenT (h : EvD K S te σ H (.tuple (nums ns))) : Ev (tCB (rLenS K) (tCons te tNil)) σ H (.int (ns.length : Int)) := fun H1 e Q q =>
  h H1 e _ fun v H2 e2 f => by
    obtain ⟨a, rfl, hs⟩ := dt_ints f
    have l : (ns.map V.int).length = ns.length := List.length_map _
    exact ⟨a, ns.map V.int, rfl, .inr (ex_t (cut_le S H2) hs), by rw [l]; exact q H2 e2⟩
theorem ev_ixTn {i : Nat} {x : Int} (h : EvD K S te σ H (.tuple (nums ns))) (hi : Ev tb σ H (.int (i : Int))) (hx : ns[i]? = some x) : Ev (tOp (rIxT K) te tb) σ H (.int x) :=
  EvD.int (K := K) (S := S) (ed_ixT h (ed_I hi) (atI_nat (by unfold nums; rw [List.getElem?_map, hx]; rfl)))
end
end Dt

set_option Elab.async false
set_option maxRecDepth 100000
set_option maxHeartbeats 4000000
set_option linter.all false
/-! far: greater trees -/
namespace Dl
open PySem L2 Evl Dt Dk
theorem places_sum : ∀ (p : List Int) (i : Nat), ((List.range p.length).map fun (j : Nat) => ((i + j : Nat) : Int) * p.getD j 0).sum = pr (fun k => (k : Int)) p i
  | [], _ => rfl
  | x :: p, i => by
    have h := places_sum p (i + 1)
    rw [List.length_cons, List.range_succ_eq_map, List.map_cons, List.sum_cons, List.map_map, pr, ← h]
    congr 1
    · show ((i + 0 : Nat) : Int) * x = x * (i : Int)
      rw [Nat.add_zero, Int.mul_comm]
    · congr 1
      refine List.map_congr_left fun j _ => ?_
      show ((i + (j + 1) : Nat) : Int) * (x :: p).getD (j + 1) 0 = ((i + 1 + j : Nat) : Int) * p.getD j 0
      rw [show i + (j + 1) = i + 1 + j by omega]
      rfl
theorem places_c1 (p : List Int) : ((List.range p.length).map fun (j : Nat) => (j : Int) * p.getD j 0).sum = c1 p := by
  have h := places_sum p 0
  unfold c1 P0
  rw [← h]
  congr 1
  refine List.map_congr_left fun j _ => ?_
  rw [Nat.zero_add]
theorem exists_min : ∀ {p : List Int}, p ≠ [] → ∃ m ∈ p, ∀ y ∈ p, m ≤ y
  | [], h => absurd rfl h
  | [a], _ => ⟨a, List.mem_singleton_self a, fun y hy => by rw [List.mem_singleton.mp hy]; exact Int.le_refl _⟩
  | a :: b :: r, _ => by
    obtain ⟨m, hm, h⟩ := exists_min (p := b :: r) (by simp)
    by_cases c : a ≤ m
    · exact ⟨a, List.mem_cons_self, fun y hy => by
        rcases List.mem_cons.mp hy with e | hy
        · rw [e]; exact Int.le_refl _
        · exact Int.le_trans c (h y hy)⟩
    · exact ⟨m, List.mem_cons_of_mem _ hm, fun y hy => by
        rcases List.mem_cons.mp hy with e | hy
        · rw [e]; omega
        · exact h y hy⟩
section
variable {P : Program} {w : World} {K : PySem.W.Frag} {mg : Str → Option Value} {base : Heap} {f C Cn fI pF : Addr} {fd : FuncData}
abbrev s_law_far_right : Stmt := topS 46
abbrev N_law_far_right : List Str := ["_law_box_here", "_law_many", "_law_tree", "_law_dark", "_law_burning", "_law_every", "_law_lever", "_law_counts_here", "_law_total", "_law_row", "_law_at"]
theorem sc_law_far_right : FnScope N_law_far_right ["_law_box_here"] (defScope s_law_far_right) := ⟨rfl, rfl, rfl, by decide +kernel, rfl, by decide +kernel, by decide +kernel⟩

theorem ok_far (F : Fun K "_law_far_right" "_law_far_right" s_law_far_right f fd) (T : Nm mg)
    (h_law_take : Has P w K mg base 1 "_law_take" ["_law_box_here", "_law_many"] spTake) (h_law_part : Has P w K mg base 33 "_law_part" ["_law_box_here", "_law_levers", "_law_word"] (spPart K 30))
    (h_hung_numbers : Has P w K mg base 6 "hung_numbers" ["tree"] (spHung K)) (h_hung_count : Has P w K mg base 6 "hung_count" ["tree", "lever"] (spCount K))
    (h_law_halves : Has P w K mg base 31 "_law_halves" ["_law_tree"] (spHalves K 30)) (h_law_counts : Has P w K mg base 31 "_law_counts" ["_law_tree", "_law_times", "_law_found"] (spCounts K 30)) :
    FnOk P w K mg base CX0 34 f fd ["_law_box_here"] spNear := by
  refine F.ok sc_law_far_right (fun vs H Q E h => ?_) (fun cdv A' outer s H vs Q E hr h => ?_)
  · obtain ⟨b, rfl, _⟩ := h
    rfl
  · obtain ⟨b, rfl, hB, k⟩ := h
    have nd := sc_law_far_right.nd
    have hu64 := hr.units
    have hu := hu_of hr
    refine ⟨_, (pss_cut (ps_set (i := 1) nd rfl (Or.inl rfl) (pe_op op_add pe_int (pe_has h_law_take (hr.mono (by first | decide | omega)) (pa_cons (pv 0) (pa_cons pe_int pa_nil)))))
  (pss_cut (ps_set (i := 2) nd rfl (Or.inr rfl) (pe_has h_law_part (hr.mono (by first | decide | omega)) (pa_cons (pv 0) (pa_cons (pe_listRg rfl rfl T.n_list (prg_1 rfl T.n_range (pv 1))) (pa_cons pe_str pa_nil)))))
  (pss_cut (ps_asg (pe_has h_hung_numbers (hr.mono (by first | decide | omega)) (pa_cons (pv 2) pa_nil)) (pg_tup rfl (pgs_cons (pg_name (i := 3) nd rfl (Or.inl rfl)) (pgs_cons (pg_name (i := 4) nd rfl (Or.inl rfl)) pgs_nil))))
  (pss_cut (ps_set (i := 5) nd rfl (Or.inl rfl) pe_int)
  (pss_cut (ps_for PassesOwn.never rfl (pi_range1 rfl T.n_range (pa_cons (pv 1) pa_nil)) (pg_name (i := 6) nd rfl (Or.inl rfl)) (pss_one (ps_set (i := 5) nd rfl (Or.inl rfl) (pe_op op_mul (pv 5) pe_int))))
  (pss_cons (ps_if (PW.pt (pw_or (pt_cmpR (op_neD hu64) (pe_tup (pa_cons (pe_callB (cr_sumT rfl) (by rfl) T.n_sum (by decide +kernel) (pa_cons (pv 3) pa_nil)) (pa_cons (pe_callB (cr_sumT rfl) (by rfl) T.n_sum (by decide +kernel) (pa_cons (pv 4) pa_nil)) pa_nil))) (pe_has h_law_halves (hr.mono (by first | decide | omega)) (pa_cons (pv 2) pa_nil)) (nomark _)) (pw_or1 (pt_cmpR op_ne (pe_op op_add (pe_callB (cr_sumT rfl) (by rfl) T.n_sum (by decide +kernel) (pa_cons (pv 3) pa_nil)) (pe_callB (cr_sumT rfl) (by rfl) T.n_sum (by decide +kernel) (pa_cons (pv 4) pa_nil))) (pv 5) (nomark _))))) (pss_one (ps_ret pe_bl)) pss_nil)
  (pss_cut (ps_set (i := 7) nd rfl (Or.inr rfl) (pe_has h_law_counts (hr.mono (by first | decide | omega)) (pa_cons (pv 2) (pa_cons pe_int (pa_cons pe_dnewK pa_nil)))))
  (pss_cons (ps_if (pt_cmpR (op_neD hu64) (pe_lc (own := [("_law_lever", 6)]) rfl nd (pi_tup (pe_tup (pa_cons pe_int (pa_cons pe_int (pa_cons (pe_op op_sub (pv 1) pe_int) pa_nil))))) (blkOk_by (own := [("_law_lever", 6)]) (N := N_law_far_right) (sc := defScope s_law_far_right) (by decide +kernel)) (fun _ _ _ _ _ => (pg_name (i := 6) nd rfl (Or.inl rfl))) (fun _ _ _ _ _ => (pts_one (pt_cmpR op_ne (pe_has h_hung_count (hr.mono (by first | decide | omega)) (pa_cons (pv 2) (pa_cons (pv 6) pa_nil))) (pe_dget hu (pv 7) (pv 6) (fun _ _ => rfl)) (nomark _)))) (fun _ _ _ _ _ => (pv 6))) (pe_lst pa_nil) (nomark _)) (pss_one (ps_ret pe_bl)) pss_nil)
  (pss_cut (ps_set (i := 8) nd rfl (Or.inl rfl) (pe_callB (cr_sum rfl) (by rfl) T.n_sum (by decide +kernel) (pa_cons (pe_lc (own := [("_law_lever", 6)]) rfl nd (pi_range1 rfl T.n_range (pa_cons (pv 1) pa_nil)) (blkOk_by (own := [("_law_lever", 6)]) (N := N_law_far_right) (sc := defScope s_law_far_right) (by decide +kernel)) (fun _ _ _ _ _ => (pg_name (i := 6) nd rfl (Or.inl rfl))) (fun _ _ _ _ _ => pts_nil) (fun _ _ _ _ _ => (pe_dget hu (pv 7) (pv 6) (fun _ _ => rfl)))) pa_nil)))
  (pss_cut (ps_for PassesOwn.never rfl (pi_tup (pe_tup (pa_cons (pv 3) (pa_cons (pv 4) pa_nil)))) (pg_name (i := 9) nd rfl (Or.inr rfl)) (pss_one (ps_if (PW.pt (pw_or (pt_cmpR op_ne (pe_callB (cr_sum rfl) (by rfl) T.n_sum (by decide +kernel) (pa_cons (pe_lc (own := [("_law_at", 10)]) rfl nd (pi_range1 rfl T.n_range (pa_cons (pe_callB call_len_seq (by rfl) T.n_len (by decide +kernel) (pa_cons (pv 9) pa_nil)) pa_nil)) (blkOk_by (own := [("_law_at", 10)]) (N := N_law_far_right) (sc := defScope s_law_far_right) (by decide +kernel)) (fun _ _ _ _ _ => (pg_name (i := 10) nd rfl (Or.inl rfl))) (fun _ _ _ _ _ => pts_nil) (fun _ _ _ _ _ => (pe_op op_mul (pv 10) (pe_ix (show IxR _ (rIxT K) from ix_tup) (pv 9) (pv 10) (fun _ _ => rfl))))) pa_nil)) (pv 8) (nomark _)) (pw_or (pt_cmpR op_eq (pe_ix ix_tup (pv 9) (pe_op op_sub (pe_callB call_len_seq (by rfl) T.n_len (by decide +kernel) (pa_cons (pv 9) pa_nil)) pe_int) (fun _ _ => rfl)) pe_int (nomark _)) (pw_or1 (pt_cmpR op_lt (pe_callB (cr_minT rfl) (by rfl) T.n_min (by decide +kernel) (pa_cons (pv 9) pa_nil)) pe_int (nomark _)))))) (pss_one (ps_ret pe_bl)) pss_nil)))
  (pss_one (ps_ret pe_bl)))))))))))), ?_⟩
    have hwas := box_some hB
    have dom : ∀ {G : Hp}, Box G b → Dom [b] G := fun h x hx => by rw [List.mem_singleton.mp hx]; exact box_some h
    -- how many
    refine q_cut (M := fun σ' G => ∃ n : Nat, σ' = [some (.ref b), some (.int (n : Int)), none, none, none, none, none, none, none, none, none] ∧ 12 ≤ n ∧ n ≤ 30 ∧ ExB b H G ∧ Box G b) ?_ ?_
    · refine ⟨_, rfl, b, 19, rfl, hB, by decide, by decide, fun d G d0 d1 bG ex => ⟨12, d, rfl, rfl, (12 + d).toNat, ?_, by omega, by omega, ex, bG⟩⟩
      rw [Int.toNat_of_nonneg (by omega)]
      rfl
    · rintro σ' G0 ⟨n, rfl, hn1, hn2, ex0, b0⟩
      -- the tree
      refine q_cut (M := fun σ' G => ∃ (t : Dl.T) (vt : V), σ' = [some (.ref b), some (.int (n : Int)), some vt, none, none, none, none, none, none, none, none] ∧ Pt t (List.range n) ∧ Dp K (cut [b] G) vt t.d ∧ ExB b H G ∧ Box G b) ?_ ?_
      · have hl := el_rg (σ := [some (.ref b), some (.int (n : Int)), none, none, none, none, none, none, none, none, none]) (H := G0) (n := n) (by omega) (rg_1 (ta := tVar 1) (ev_var (i := 1) rfl))
        refine ⟨_, rfl, hl G0 (Ex.refl G0) _ fun l G1 nl e1 hl1 => ⟨[b], b, l, "", List.range n, rfl, dom (b0.mono e1), List.mem_singleton_self b, b0.mono e1, fun z => box_some b0 (z ▸ nl), hl1, List.pairwise_lt_range, fun z => ?_, by rw [List.length_range]; exact hn2, by rw [List.length_range]; omega, fun t y G2 ex2 b2 pt _ hy => ⟨t, y, rfl, pt, hy, (ex0.trans (.of e1)).trans ex2, b2⟩⟩⟩
        have := congrArg List.length z
        rw [List.length_range] at this
        simp at this
        omega
      · rintro σ' G1 ⟨t, vt, rfl, pt, hvt, ex1, b1⟩
        obtain ⟨good, hlen⟩ := pt.good hn2
        have hbd := bounds t pt.form
        have B := hb t pt.form
        have lD := B.lenD
        have lB := B.lenB
        have D1 := dom b1
        have sml : Sml t := ⟨pt.form, by omega⟩
        obtain ⟨top1, top2⟩ := top_hung t pt.form
        -- dark and burning
        refine q_cut (M := fun σ' G => ∃ (va vb : V), σ' = [some (.ref b), some (.int (n : Int)), some vt, some va, some vb, none, none, none, none, none, none] ∧ Dp K (cut [b] G) va (.tuple (nums t.hung.1)) ∧ Dp K (cut [b] G) vb (.tuple (nums t.hung.2)) ∧ Ex G1 G) ?_ ?_
        · have hhn : EvD K [b] (tCall (spHung K) [] E0 (tCons (tVar 2) tNil)) [some (.ref b), some (.int (n : Int)), some vt, none, none, none, none, none, none, none, none] G1 (twoT t.hung) := fun H1 e Q q =>
            ⟨_, rfl, [b], vt, t, rfl, D1.mono e, dp_mono (cut_mono e) _ hvt, good, by omega, fun y H2 e2 hy => q y H2 e2 hy⟩
          exact s_pairD rfl hhn fun x y H1 e h1 h2 => ⟨x, y, rfl, h1, h2, e⟩
        · rintro σ' G2 ⟨va, vb, rfl, hva, hvb, e12⟩
          have D2 := D1.mono e12
          have hvt2 := dp_mono (cut_mono e12) _ hvt
          refine q_cut (M := fun σ' G => σ' = [some (.ref b), some (.int (n : Int)), some vt, some va, some vb, some (.int 1), none, none, none, none, none] ∧ Ex G2 G) (s_asg ev_c fun G e => ⟨rfl, e⟩) ?_
          rintro σ' G3 ⟨rfl, e23⟩
          -- every
          refine q_cut (M := fun σ' G => ∃ x6 : Option V, σ' = [some (.ref b), some (.int (n : Int)), some vt, some va, some vb, some (.int (2 ^ n)), x6, none, none, none, none] ∧ Ex G2 G) ?_ ?_
          · refine s_forR1 (j := 6) (n := (n : Int)) (ea_cons (ev_var (i := 1) rfl) ea_nil) (by omega) (fun i σ' G => ∃ x6 : Option V, σ' = [some (.ref b), some (.int (n : Int)), some vt, some va, some vb, some (.int (2 ^ i)), x6, none, none, none, none] ∧ Ex G2 G) (fun G e => ⟨none, rfl, e23.trans e⟩) ?_ ?_
            · rintro i σ' G hi ⟨x6, rfl, eG⟩
              refine s_asg (ev_op (ev_var (i := 5) rfl) ev_c (rv_I (.inr ⟨by decide, by decide⟩))) fun G4 e4 => ⟨some (.int (i : Int)), ?_, eG.trans e4⟩
              rw [Int.pow_succ]
              rfl
            · rintro σ' G ⟨x6, rfl, eG⟩
              rw [Int.toNat_natCast]
              exact ⟨x6, rfl, eG⟩
          · rintro σ' G4 ⟨x6, rfl, e24⟩
            have D4 := D2.mono e24
            let σ4 : L2.St := [some (.ref b), some (.int (n : Int)), some vt, some va, some vb, some (.int (2 ^ n)), x6, none, none, none, none]
            have hvt4 := dp_mono (cut_mono e24) _ hvt2
            have s3 : Ev (tCB (rSumT K) (tCons (tVar 3) tNil)) σ4 G4 (.int t.hung.1.sum) := ev_sumT (S := [b]) (ed_var (i := 3) rfl (dp_mono (cut_mono e24) _ hva))
            have s4 : Ev (tCB (rSumT K) (tCons (tVar 4) tNil)) σ4 G4 (.int t.hung.2.sum) := ev_sumT (S := [b]) (ed_var (i := 4) rfl (dp_mono (cut_mono e24) _ hvb))
            have tp : EvD K [b] (tTup (tCons (tCB (rSumT K) (tCons (tVar 3) tNil)) (tCons (tCB (rSumT K) (tCons (tVar 4) tNil)) tNil))) σ4 G4 (.tuple (nums [t.hung.1.sum, t.hung.2.sum])) :=
              ed_tup D4 (eda_cons (ed_I s3) (eda_cons (ed_I s4) eda_nil)) (show 2 ≤ 100000 by decide)
            have hv : EvD K [b] (tCall (spHalves K 30) [] E0 (tCons (tVar 2) tNil)) σ4 G4 (.tuple (nums [t.hung.1.sum, t.hung.2.sum])) :=
              ed_halves (K := K) (n := 30) (E := E0) D4 (ed_var (i := 2) rfl hvt4) sml (by omega)
            refine q_when (b := false) (et_is (et_or (et_neD tp hv (shapedT_ints _) (shapedT_ints _)) fun _ => et_test (ev_op (ev_op s3 s4 rv_I0) (ev_var (i := 5) rfl) (rv_ne rfl))) ?_) (fun z => nomatch z) fun _ G5 e45 => ?_
            · rw [eqvT_ints, decide_eq_true rfl]
              have : t.hung.1.sum + t.hung.2.sum = 2 ^ n := by rw [B.sum, hlen]
              rw [this, decide_eq_true rfl]
              rfl
            · have e25 := e24.trans e45
              have D5 := D4.mono e45
              have hvt5 := dp_mono (cut_mono e45) _ hvt4
              have b5 := b1.mono (e12.trans e25)
              -- the counts
              refine q_cut (M := fun σ' G => ∃ (d : Addr) (kvs : List (Key × V)), σ' = [some (.ref b), some (.int (n : Int)), some vt, some va, some vb, some (.int (2 ^ n)), x6, some (.ref d), none, none, none] ∧ G5 d = none ∧ G d = some (.dK kvs) ∧ (∀ z : Nat, z < n → valV kvs (.inl (z : Int)) = some (.int (t.hc z))) ∧ Ex (cut [b] G5) (cut [d, b] G) ∧ Dom [d, b] G ∧ ExB b H G ∧ ExB d G5 G) ?_ ?_
              · refine ⟨_, rfl, fun d hd => ?_⟩
                have en : Ex G5 (upd G5 d (.dK [])) := Ex.new hd
                have ec : Ex (cut [b] G5) (cut [d, b] (upd G5 d (.dK []))) := cut_new_le en hd
                have Dd : Dom [d, b] (upd G5 d (.dK [])) := (D5.mono en).cons upd_same
                have hdb : d ≠ b := fun z => box_some b5 (z ▸ hd)
                refine ⟨[b], vt, 1, t, d, [], rfl, Dd, dp_mono ec _ hvt5, upd_same, sml, by omega, good.nd, by show 0 + _ ≤ 1000; omega, fun kvs' G6 h1 h2 h3 h4 h5 => ?_⟩
                have exd : ExB d G5 G6 := (ExB.of en).trans h2
                refine ⟨d, kvs', rfl, hd, h1, fun z hz => ?_, ec.trans h2.cut, fun x hx => ?_, ?_, exd⟩
                · rw [h4 z (pt.perm.mem_iff.mpr (List.mem_range.mpr hz)), Int.one_mul]
                · rcases List.mem_cons.mp hx with e | hx
                  · rw [e, h1]; exact fun z => nomatch z
                  · rw [List.mem_singleton.mp hx]
                    obtain ⟨g, s', q1, _⟩ := b5
                    rw [exd _ _ q1 hdb.symm]
                    exact fun z => nomatch z
                · intro a o ha hab
                  have a5 : G5 a = some o := (e12.trans e25) a o (ex1 a o ha hab)
                  exact exd a o a5 fun z => by rw [z, hd] at a5; cases a5
              · rintro σ' G6 ⟨d, kvs, rfl, hd5, hd6, hval, e56, D6, ex6, exd⟩
                have hvt6 := dp_mono e56 _ hvt5
                let σ6 : L2.St := [some (.ref b), some (.int (n : Int)), some vt, some va, some vb, some (.int (2 ^ n)), x6, some (.ref d), none, none, none]
                have cntE : ∀ {te : TE} {σ : L2.St} {G : Hp} {z : Nat}, Ex G6 G → σ[2]? = some (some vt) → Ev te σ G (.int (z : Int)) → z < n → Ev (tCall (spCount K) [] E0 (tCons (tVar 2) (tCons te tNil))) σ G (.int (t.hc z)) := fun {te σ G z} eG h2 hz hlt H1 e Q q =>
                  ⟨_, h2, hz H1 e _ fun H2 e2 => ⟨[d, b], vt, t, z, rfl, D6.mono (eG.trans (e.trans e2)), dp_mono (cut_mono (eG.trans (e.trans e2))) _ hvt6, good, by omega, by omega, fun H3 e3 => q H3 (e2.trans e3)⟩⟩
                have getE : ∀ {σ : L2.St} {G : Hp} {z : Nat} {te : TE}, Ex G6 G → σ[7]? = some (some (.ref d)) → Ev te σ G (.int (z : Int)) → z < n → Ev (tDGet (tVar 7) te) σ G (.int (t.hc z)) := fun {σ G z te} eG h7 hz hlt =>
                  ev_dget (k := .inl (z : Int)) (ev_var h7) hz (eG _ _ hd6) (hval z hlt)
                -- three levers
                have nm1 : Ev (tOp (rI0 fun i j => .int (i - j)) (tVar 1) (tC (.int 1))) σ6 G6 (.int ((n : Int) - 1)) := ev_op (ev_var (i := 1) rfl) ev_c rv_I0
                have hlv := edl_lcT (K := K) (S := [d, b]) (σ := σ6) (H := G6) (j := 6) (vs := [6]) (t := tTest (tOp rNe (tCall (spCount K) [] E0 (tCons (tVar 2) (tCons (tVar 6) tNil))) (tDGet (tVar 7) (tVar 6)))) (te := tVar 6) (ds := [.int 0, .int 7, .int ((n : Int) - 1)]) (fun _ => false) id D6
                  (ed_tup D6 (eda_cons ed_int (eda_cons ed_int (eda_cons (ed_I nm1) eda_nil))) (show 3 ≤ 100000 by decide)) (show 3 ≤ 40000 by decide) (fun x => rfl)
                  (fun dd v S' G e c D' hdm hv => by
                    have : ∃ z : Nat, z < n ∧ dd = .int (z : Int) := by
                      simp only [List.mem_cons, List.mem_nil_iff, or_false] at hdm
                      rcases hdm with rfl | rfl | rfl
                      · exact ⟨0, by omega, rfl⟩
                      · exact ⟨7, by omega, rfl⟩
                      · exact ⟨n - 1, by omega, by congr 1; omega⟩
                    obtain ⟨z, hz, rfl⟩ := this
                    rw [dp_int hv]
                    refine et_is (et_test (ev_op (cntE e rfl (ev_var (i := 6) rfl) hz) (getE e rfl (ev_var (i := 6) rfl) hz) (rv_ne rfl))) ?_
                    rw [decide_eq_true rfl]
                    rfl)
                  (fun dd v S' G e c D' hdm hv hq => nomatch hq)
                have hlv0 : EvD K [d, b] (tLc (iTup K (tTup (tCons (tC (.int 0)) (tCons (tC (.int 7)) (tCons (tOp (rI0 fun i j => .int (i - j)) (tVar 1) (tC (.int 1))) tNil))))) (gName 6) (tTest (tOp rNe (tCall (spCount K) [] E0 (tCons (tVar 2) (tCons (tVar 6) tNil))) (tDGet (tVar 7) (tVar 6)))) (tVar 6) [6]) σ6 G6 (.list (nums [])) := EvDL.ed D6 hlv
                refine q_when (b := false) (et_is (et_neD hlv0 (ed_lst D6 eda_nil (show 0 ≤ 100000 by decide)) (shaped_ints []) (shaped_ints [])) ?_) (fun z => nomatch z) fun _ G7 e67 => ?_
                · have e3 : PyData.eqv (.list (nums [])) (.list []) = decide (([] : List Int) = []) := eqv_ints [] []
                  rw [e3]
                  rfl
                · -- the total
                  let tot : Int := ((List.range n).map fun z => t.hc z).sum
                  have D7 := D6.mono e67
                  refine q_cut (M := fun σ' G => σ' = [some (.ref b), some (.int (n : Int)), some vt, some va, some vb, some (.int (2 ^ n)), x6, some (.ref d), some (.int tot), none, none] ∧ Ex G7 G) ?_ ?_
                  · have hlc := el_lcR1 (σ := σ6) (H := G7) (j := 6) (vs := [6]) (n := (n : Int)) (t := tYes) (te := tDGet (tVar 7) (tVar 6)) (fun _ => true) (fun z => .int (t.hc z)) (ea_cons (ev_var (i := 1) rfl) ea_nil) (by omega) (fun x => rfl) (fun i H1 e hi => et_none) (fun i H1 e hi _ => getE (e67.trans e) rfl (ev_var (i := 6) rfl) (by omega))
                    have eg : given (n : Int).toNat (fun _ => true) (fun z => V.int (t.hc z)) = ((List.range n).map fun z => t.hc z).map V.int := by
                      unfold given
                      rw [Int.toNat_natCast, List.filter_eq_self.mpr fun _ _ => rfl, List.map_map]
                      rfl
                    rw [eg] at hlc
                    exact s_asg (ev_sumL (K := K) hlc) fun G e => ⟨rfl, e⟩
                  · rintro σ' G8 ⟨rfl, e78⟩
                    have e68 := e67.trans e78
                    have D8 := D6.mono e68
                    obtain ⟨ct1, ct2⟩ := c1_hung (L := List.range n) List.nodup_range t pt.form (fun z hz => pt.perm.mem_iff.mp hz)
                    have hva8 := dp_mono (e56.trans (cut_mono e68)) _ (dp_mono (cut_mono e25) _ hva)
                    have hvb8 := dp_mono (e56.trans (cut_mono e68)) _ (dp_mono (cut_mono e25) _ hvb)
                    refine q_cut (M := fun _ G => Ex G8 G) ?_ (fun σ' G9 e89 => s_ret (v := .bl true) ev_c fun G e => k G (ex6.trans (.of (e68.trans (e89.trans e)))))
                    let σ8 : L2.St := [some (.ref b), some (.int (n : Int)), some vt, some va, some vb, some (.int (2 ^ n)), x6, some (.ref d), some (.int tot), none, none]
                    have htu : EvD K [d, b] (tTup (tCons (tVar 3) (tCons (tVar 4) tNil))) σ8 G8 (.tuple [.tuple (nums t.hung.1), .tuple (nums t.hung.2)]) := ed_tup D8 (eda_cons (ed_var (i := 3) rfl hva8) (eda_cons (ed_var (i := 4) rfl hvb8) eda_nil)) (show 2 ≤ 100000 by decide)
                    refine s_forTD (K := K) (S := [d, b]) (j := 9) htu (fun B i σ' G => ∃ x9 : Option V, σ' = [some (.ref b), some (.int (n : Int)), some vt, some va, some vb, some (.int (2 ^ n)), x6, some (.ref d), some (.int tot), x9, none] ∧ Ex G8 B ∧ Ex B G) (fun G e => ⟨none, rfl, e, Ex.refl G⟩) (fun B i σ' G ⟨_, _, _, e⟩ => cut_mono e) ?_ (fun B σ' G e ⟨_, _, e8, e9⟩ => e8.trans e9)
                    rintro B i dd x σ' G eB hdd hx ⟨x9, rfl, e8B, eBG⟩
                    have hrow : ∃ row : List Int, dd = .tuple (nums row) ∧ c1 row = tot ∧ Top row ∧ row.length ≤ 40000 := by
                      have hm := List.mem_of_getElem? hdd
                      simp only [List.mem_cons, List.mem_nil_iff, or_false] at hm
                      rcases hm with rfl | rfl
                      · exact ⟨_, rfl, ct1, top1, by omega⟩
                      · exact ⟨_, rfl, ct2, top2, by omega⟩
                    obtain ⟨row, rfl, hc1, htop, hsmall⟩ := hrow
                    let σ9 : L2.St := [some (.ref b), some (.int (n : Int)), some vt, some va, some vb, some (.int (2 ^ n)), x6, some (.ref d), some (.int tot), some x, none]
                    have hrow9 : ∀ {x10 : Option V} {G' : Hp}, Ex G G' → EvD K [d, b] (tVar 9) [some (.ref b), some (.int (n : Int)), some vt, some va, some vb, some (.int (2 ^ n)), x6, some (.ref d), some (.int tot), some x, x10] G' (.tuple (nums row)) := fun {x10 G'} e => ed_var (i := 9) rfl (dp_mono (cut_mono e) _ hx)
                    have hlc := el_lcR1 (σ := σ9) (H := G) (j := 10) (vs := [10]) (n := (row.length : Int)) (t := tYes) (te := tOp (rI CMul fun i j => .int (i * j)) (tVar 10) (tOp (rIxT K) (tVar 9) (tVar 10))) (fun _ => true) (fun j => .int ((j : Int) * row.getD j 0)) (ea_cons (ev_lenT (S := [d, b]) (hrow9 (Ex.refl G))) ea_nil) (by omega) (fun x => rfl) (fun i H1 e hi => et_none)
                      (fun j H1 e hj _ => by
                        have hjl : j < row.length := by omega
                        refine ev_op (ev_var (i := 10) rfl) (ev_ixTn (S := [d, b]) (x := row.getD j 0) (hrow9 e) (ev_var (i := 10) rfl) (by rw [List.getD_eq_getElem?_getD, List.getElem?_eq_getElem hjl]; rfl)) (rv_I (.inl ⟨by omega, by omega⟩)))
                    have eg : given (row.length : Int).toNat (fun _ => true) (fun j => V.int ((j : Int) * row.getD j 0)) = ((List.range row.length).map fun (j : Nat) => (j : Int) * row.getD j 0).map V.int := by
                      unfold given
                      rw [Int.toNat_natCast, List.filter_eq_self.mpr fun _ _ => rfl, List.map_map]
                      rfl
                    rw [eg] at hlc
                    have hsum := ev_sumL (K := K) hlc
                    rw [places_c1, hc1] at hsum
                    obtain ⟨mn, hmn, hle⟩ := exists_min (p := row) (fun z => by have := htop.ne; rw [z] at this; exact absurd this (by decide))
                    have hlast : Ev (tOp (rIxT K) (tVar 9) (tOp (rI0 fun i j => .int (i - j)) (tCB (rLenS K) (tCons (tVar 9) tNil)) (tC (.int 1)))) σ9 G (.int (row.getD (row.length - 1) 0)) := by
                      have hl1 := htop.ne
                      refine ev_ixTn (S := [d, b]) (i := row.length - 1) (hrow9 (Ex.refl G)) (ev_is (ev_op (ev_lenT (S := [d, b]) (hrow9 (Ex.refl G))) ev_c rv_I0) (by congr 1; omega)) (by rw [List.getD_eq_getElem?_getD, List.getElem?_eq_getElem (by omega)]; rfl)
                    have ht0 := htop.top
                    refine s_when (b := false) (et_is (et_or (et_test (ev_op hsum (ev_var (i := 8) rfl) (rv_ne rfl))) fun _ => et_or (et_test (ev_op hlast ev_c (rv_eq rfl))) fun _ => et_test (ev_op (ev_minT (S := [d, b]) (hrow9 (Ex.refl G)) htop.ne hmn hle) ev_c rv_I0)) ?_) (fun z => nomatch z) fun _ G10 e10 => ⟨_, rfl, e8B, eBG.trans e10⟩
                    rw [decide_eq_true rfl, decide_eq_false (fun z => by have := V.int.inj z; omega), decide_eq_false (by have := htop.nn mn hmn; omega)]
                    rfl
end
end Dl

set_option Elab.async false
set_option maxRecDepth 100000
set_option maxHeartbeats 4000000
set_option linter.all false
/-! the law itself -/
namespace Dl
open PySem L2 Evl Dt Dk
section
variable {P : Program} {w : World} {K : PySem.W.Frag} {mg : Str → Option Value} {base : Heap} {f : Addr} {fd : FuncData}
def spLaw (K : PySem.W.Frag) : Sp := fun vs H Q _ => ∃ (v : V) (ns : List Int), vs = [v] ∧ LI K H v ns ∧ ns.length ≤ 100000 ∧ ∀ H', Q (.bl true) H'
abbrev s_law : Stmt := topS 47
abbrev N_law : List Str := ["_law_script"]
theorem sc_law : FnScope N_law ["_law_script"] (defScope s_law) := ⟨rfl, rfl, rfl, by decide +kernel, rfl, by decide +kernel, by decide +kernel⟩

theorem ok_law (F : Fun K "law" "law" s_law f fd)
    (h_law_box : Has P w K mg base 1 "_law_box" ["_law_script", "_law_k"] (spBox K))
    (h_law_near_right : HasG P w K mg base 9 "_law_near_right" ["_law_box_here"] spNear)
    (h_law_far_right : Has P w K mg base 34 "_law_far_right" ["_law_box_here"] spNear) :
    FnG P w K mg base CX0 35 f fd ["_law_script"] (spLaw K) := by
  refine fng F sc_law (fun vs H Q E h => ?_) (fun cdv A' outer s H vs Q E hg hr h => ?_)
  · obtain ⟨v, ns, rfl, _⟩ := h
    rfl
  · obtain ⟨v, ns, rfl, hl, hn, q⟩ := h
    have nd := sc_law.nd
    have hu64 := hr.units
    have hu := hu_of hr
    refine ⟨_, (pss_one (ps_ret (pe_and (pe_hasG h_law_near_right hg (hr.mono (by first | decide | omega)) (pa_cons (pe_has h_law_box (hr.mono (by first | decide | omega)) (pa_cons (pv 0) (pa_cons pe_int pa_nil))) pa_nil)) (pe_one (pe_has h_law_far_right (hr.mono (by first | decide | omega)) (pa_cons (pe_has h_law_box (hr.mono (by first | decide | omega)) (pa_cons (pv 0) (pa_cons pe_int pa_nil))) pa_nil)))))), ?_⟩
    refine ⟨_, rfl, v, ns, 0, rfl, hl, hn, by omega, fun b H1 nb e1 hB => ⟨b, rfl, hB, fun H2 ex => ⟨true, rfl, ?_⟩⟩⟩
    have e2 : Ex H H2 := fun a o h => ex a o (e1 a o h) fun z => by rw [z, nb] at h; exact nomatch h
    exact ⟨_, rfl, v, ns, 1, rfl, hl.mono e2, hn, by omega, fun b2 H3 nb2 e3 hB2 => ⟨b2, rfl, hB2, fun H4 ex4 => q H4⟩⟩
end
end Dl

set_option Elab.async false
set_option maxRecDepth 100000
set_option maxHeartbeats 4000000
set_option linter.all false
/-! what the top has left, and every def's promise -/
namespace Dl
open PySem L2 Evl Dt Dk
theorem all_mk {l : PySem.W.OpenLaw} {w : World} {K : PySem.W.Frag} {h : Heap} {mg : Str → Option Value} {fa : Addr} (X : K.In h) (G : h.Ns mainGlobals mg) (hfa : mg "law" = some (.ref fa))
    {C pF Cn fI eN : Addr} {fg0 fg1 fg2 fg3 fg4 fg5 fg6 fg7 fg8 fg9 fg10 fg11 fg12 fg13 fg14 fg15 fg16 fg17 fg18 fg19 fg20 fg21 fg22 fg23 fg24 fg25 fg26 fg27 fg28 fg29 fg30 fg31 fg32 fg33 fg34 fg35 fm0 fm1 fm2 fm3 : Addr} {ocg0 kVg0 dcg0 pmg0 cdg0 ctg0 ocg1 kVg1 dcg1 pmg1 cdg1 ctg1 ocg2 kVg2 dcg2 pmg2 cdg2 ctg2 ocg3 kVg3 dcg3 pmg3 cdg3 ctg3 ocg4 kVg4 dcg4 pmg4 cdg4 ctg4 ocg5 kVg5 dcg5 pmg5 cdg5 ctg5 ocg6 kVg6 dcg6 pmg6 cdg6 ctg6 ocg7 kVg7 dcg7 pmg7 cdg7 ctg7 ocg8 kVg8 dcg8 pmg8 cdg8 ctg8 ocg9 kVg9 dcg9 pmg9 cdg9 ctg9 ocg10 kVg10 dcg10 pmg10 cdg10 ctg10 ocg11 kVg11 dcg11 pmg11 cdg11 ctg11 ocg12 kVg12 dcg12 pmg12 cdg12 ctg12 ocg13 kVg13 dcg13 pmg13 cdg13 ctg13 ocg14 kVg14 dcg14 pmg14 cdg14 ctg14 ocg15 kVg15 dcg15 pmg15 cdg15 ctg15 ocg16 kVg16 dcg16 pmg16 cdg16 ctg16 ocg17 kVg17 dcg17 pmg17 cdg17 ctg17 ocg18 kVg18 dcg18 pmg18 cdg18 ctg18 ocg19 kVg19 dcg19 pmg19 cdg19 ctg19 ocg20 kVg20 dcg20 pmg20 cdg20 ctg20 ocg21 kVg21 dcg21 pmg21 cdg21 ctg21 ocg22 kVg22 dcg22 pmg22 cdg22 ctg22 ocg23 kVg23 dcg23 pmg23 cdg23 ctg23 ocg24 kVg24 dcg24 pmg24 cdg24 ctg24 ocg25 kVg25 dcg25 pmg25 cdg25 ctg25 ocg26 kVg26 dcg26 pmg26 cdg26 ctg26 ocg27 kVg27 dcg27 pmg27 cdg27 ctg27 ocg28 kVg28 dcg28 pmg28 cdg28 ctg28 ocg29 kVg29 dcg29 pmg29 cdg29 ctg29 ocg30 kVg30 dcg30 pmg30 cdg30 ctg30 ocg31 kVg31 dcg31 pmg31 cdg31 ctg31 ocg32 kVg32 dcg32 pmg32 cdg32 ctg32 ocg33 kVg33 dcg33 pmg33 cdg33 ctg33 ocg34 kVg34 dcg34 pmg34 cdg34 ctg34 ocg35 kVg35 dcg35 pmg35 cdg35 ctg35 ocm0 kVm0 dcm0 pmm0 cdm0 ctm0 ocm1 kVm1 dcm1 pmm1 cdm1 ctm1 ocm2 kVm2 dcm2 pmm2 cdm2 ctm2 ocm3 kVm3 dcm3 pmm3 cdm3 ctm3 : Value} {odg0 ang0 odg1 ang1 odg2 ang2 odg3 ang3 odg4 ang4 odg5 ang5 odg6 ang6 odg7 ang7 odg8 ang8 odg9 ang9 odg10 ang10 odg11 ang11 odg12 ang12 odg13 ang13 odg14 ang14 odg15 ang15 odg16 ang16 odg17 ang17 odg18 ang18 odg19 ang19 odg20 ang20 odg21 ang21 odg22 ang22 odg23 ang23 odg24 ang24 odg25 ang25 odg26 ang26 odg27 ang27 odg28 ang28 odg29 ang29 odg30 ang30 odg31 ang31 odg32 ang32 odg33 ang33 odg34 ang34 odg35 ang35 odm0 anm0 odm1 anm1 odm2 anm2 odm3 anm3 : Option Addr} {slg0 slg1 slg2 slg3 slg4 slg5 slg6 slg7 slg8 slg9 slg10 slg11 slg12 slg13 slg14 slg15 slg16 slg17 slg18 slg19 slg20 slg21 slg22 slg23 slg24 slg25 slg26 slg27 slg28 slg29 slg30 slg31 slg32 slg33 slg34 slg35 slm0 slm1 slm2 slm3 : Array (Option Value)}
    {tM tF1 tF2 : Tok} {dF : Option Addr} {nF : Nat} {slF iosl : Array (Option Value)} {enm eq : Str} {ebs esub : List Value} {esn : List Str} {eab : Bool} {ecol : Option Bool} {edd iod ian : Option Addr} {e0 e1 e2 e3 e5 : Option Value} {ioc idoc ipm icd ict : Value}
    (ag0 : PySem.W.nsIn K mainGlobals "is_integer" = some (some (.ref fg0)))
    (lg0 : K.lookup fg0 = some ⟨ocg0, odg0, .func (PySem.W.fnOf "is_integer" "is_integer" (defArgs s_is_integer) (defBody s_is_integer) (defScope s_is_integer) .none kVg0 dcg0 pmg0 ang0 cdg0 ctg0), slg0⟩)
    (cg0 : PySem.W.codeIn K cdg0 "is_integer" = true)
    (kg0 : PySem.W.keepIn K (.ref fg0) = true)
    (ag1 : PySem.W.nsIn K mainGlobals "is_number" = some (some (.ref fg1)))
    (lg1 : K.lookup fg1 = some ⟨ocg1, odg1, .func (PySem.W.fnOf "is_number" "is_number" (defArgs s_is_number) (defBody s_is_number) (defScope s_is_number) .none kVg1 dcg1 pmg1 ang1 cdg1 ctg1), slg1⟩)
    (cg1 : PySem.W.codeIn K cdg1 "is_number" = true)
    (kg1 : PySem.W.keepIn K (.ref fg1) = true)
    (ag2 : PySem.W.nsIn K mainGlobals "is_below" = some (some (.ref fg2)))
    (lg2 : K.lookup fg2 = some ⟨ocg2, odg2, .func (PySem.W.fnOf "is_below" "is_below" (defArgs s_is_below) (defBody s_is_below) (defScope s_is_below) .none kVg2 dcg2 pmg2 ang2 cdg2 ctg2), slg2⟩)
    (cg2 : PySem.W.codeIn K cdg2 "is_below" = true)
    (kg2 : PySem.W.keepIn K (.ref fg2) = true)
    (ag3 : PySem.W.nsIn K mainGlobals "is_sequence" = some (some (.ref fg3)))
    (lg3 : K.lookup fg3 = some ⟨ocg3, odg3, .func (PySem.W.fnOf "is_sequence" "is_sequence" (defArgs s_is_sequence) (defBody s_is_sequence) (defScope s_is_sequence) .none kVg3 dcg3 pmg3 ang3 cdg3 ctg3), slg3⟩)
    (cg3 : PySem.W.codeIn K cdg3 "is_sequence" = true)
    (kg3 : PySem.W.keepIn K (.ref fg3) = true)
    (ag4 : PySem.W.nsIn K mainGlobals "has_length" = some (some (.ref fg4)))
    (lg4 : K.lookup fg4 = some ⟨ocg4, odg4, .func (PySem.W.fnOf "has_length" "has_length" (defArgs s_has_length) (defBody s_has_length) (defScope s_has_length) .none kVg4 dcg4 pmg4 ang4 cdg4 ctg4), slg4⟩)
    (cg4 : PySem.W.codeIn K cdg4 "has_length" = true)
    (kg4 : PySem.W.keepIn K (.ref fg4) = true)
    (ag5 : PySem.W.nsIn K mainGlobals "is_word" = some (some (.ref fg5)))
    (lg5 : K.lookup fg5 = some ⟨ocg5, odg5, .func (PySem.W.fnOf "is_word" "is_word" (defArgs s_is_word) (defBody s_is_word) (defScope s_is_word) .none kVg5 dcg5 pmg5 ang5 cdg5 ctg5), slg5⟩)
    (cg5 : PySem.W.codeIn K cdg5 "is_word" = true)
    (kg5 : PySem.W.keepIn K (.ref fg5) = true)
    (ag6 : PySem.W.nsIn K mainGlobals "check_lever" = some (some (.ref fg6)))
    (lg6 : K.lookup fg6 = some ⟨ocg6, odg6, .func (PySem.W.fnOf "check_lever" "check_lever" (defArgs s_check_lever) (defBody s_check_lever) (defScope s_check_lever) .none kVg6 dcg6 pmg6 ang6 cdg6 ctg6), slg6⟩)
    (cg6 : PySem.W.codeIn K cdg6 "check_lever" = true)
    (kg6 : PySem.W.keepIn K (.ref fg6) = true)
    (ag7 : PySem.W.nsIn K mainGlobals "has_knot_form" = some (some (.ref fg7)))
    (lg7 : K.lookup fg7 = some ⟨ocg7, odg7, .func (PySem.W.fnOf "has_knot_form" "has_knot_form" (defArgs s_has_knot_form) (defBody s_has_knot_form) (defScope s_has_knot_form) .none kVg7 dcg7 pmg7 ang7 cdg7 ctg7), slg7⟩)
    (cg7 : PySem.W.codeIn K cdg7 "has_knot_form" = true)
    (kg7 : PySem.W.keepIn K (.ref fg7) = true)
    (ag8 : PySem.W.nsIn K mainGlobals "read_form" = some (some (.ref fg8)))
    (lg8 : K.lookup fg8 = some ⟨ocg8, odg8, .func (PySem.W.fnOf "read_form" "read_form" (defArgs s_read_form) (defBody s_read_form) (defScope s_read_form) .none kVg8 dcg8 pmg8 ang8 cdg8 ctg8), slg8⟩)
    (cg8 : PySem.W.codeIn K cdg8 "read_form" = true)
    (kg8 : PySem.W.keepIn K (.ref fg8) = true)
    (ag9 : PySem.W.nsIn K mainGlobals "inner_first" = some (some (.ref fg9)))
    (lg9 : K.lookup fg9 = some ⟨ocg9, odg9, .func (PySem.W.fnOf "inner_first" "inner_first" (defArgs s_inner_first) (defBody s_inner_first) (defScope s_inner_first) .none kVg9 dcg9 pmg9 ang9 cdg9 ctg9), slg9⟩)
    (cg9 : PySem.W.codeIn K cdg9 "inner_first" = true)
    (kg9 : PySem.W.keepIn K (.ref fg9) = true)
    (ag10 : PySem.W.nsIn K mainGlobals "least_levers" = some (some (.ref fg10)))
    (lg10 : K.lookup fg10 = some ⟨ocg10, odg10, .func (PySem.W.fnOf "least_levers" "least_levers" (defArgs s_least_levers) (defBody s_least_levers) (defScope s_least_levers) .none kVg10 dcg10 pmg10 ang10 cdg10 ctg10), slg10⟩)
    (cg10 : PySem.W.codeIn K cdg10 "least_levers" = true)
    (kg10 : PySem.W.keepIn K (.ref fg10) = true)
    (ag11 : PySem.W.nsIn K mainGlobals "is_ordered" = some (some (.ref fg11)))
    (lg11 : K.lookup fg11 = some ⟨ocg11, odg11, .func (PySem.W.fnOf "is_ordered" "is_ordered" (defArgs s_is_ordered) (defBody s_is_ordered) (defScope s_is_ordered) .none kVg11 dcg11 pmg11 ang11 cdg11 ctg11), slg11⟩)
    (cg11 : PySem.W.codeIn K cdg11 "is_ordered" = true)
    (kg11 : PySem.W.keepIn K (.ref fg11) = true)
    (ag12 : PySem.W.nsIn K mainGlobals "row_levers" = some (some (.ref fg12)))
    (lg12 : K.lookup fg12 = some ⟨ocg12, odg12, .func (PySem.W.fnOf "row_levers" "row_levers" (defArgs s_row_levers) (defBody s_row_levers) (defScope s_row_levers) .none kVg12 dcg12 pmg12 ang12 cdg12 ctg12), slg12⟩)
    (cg12 : PySem.W.codeIn K cdg12 "row_levers" = true)
    (kg12 : PySem.W.keepIn K (.ref fg12) = true)
    (ag13 : PySem.W.nsIn K mainGlobals "tree_walk" = some (some (.ref fg13)))
    (lg13 : K.lookup fg13 = some ⟨ocg13, odg13, .func (PySem.W.fnOf "tree_walk" "tree_walk" (defArgs s_tree_walk) (defBody s_tree_walk) (defScope s_tree_walk) .none kVg13 dcg13 pmg13 ang13 cdg13 ctg13), slg13⟩)
    (cg13 : PySem.W.codeIn K cdg13 "tree_walk" = true)
    (kg13 : PySem.W.keepIn K (.ref fg13) = true)
    (ag14 : PySem.W.nsIn K mainGlobals "product_of" = some (some (.ref fg14)))
    (lg14 : K.lookup fg14 = some ⟨ocg14, odg14, .func (PySem.W.fnOf "product_of" "product_of" (defArgs s_product_of) (defBody s_product_of) (defScope s_product_of) .none kVg14 dcg14 pmg14 ang14 cdg14 ctg14), slg14⟩)
    (cg14 : PySem.W.codeIn K cdg14 "product_of" = true)
    (kg14 : PySem.W.keepIn K (.ref fg14) = true)
    (ag15 : PySem.W.nsIn K mainGlobals "ways_by_row" = some (some (.ref fg15)))
    (lg15 : K.lookup fg15 = some ⟨ocg15, odg15, .func (PySem.W.fnOf "ways_by_row" "ways_by_row" (defArgs s_ways_by_row) (defBody s_ways_by_row) (defScope s_ways_by_row) .none kVg15 dcg15 pmg15 ang15 cdg15 ctg15), slg15⟩)
    (cg15 : PySem.W.codeIn K cdg15 "ways_by_row" = true)
    (kg15 : PySem.W.keepIn K (.ref fg15) = true)
    (ag16 : PySem.W.nsIn K mainGlobals "times" = some (some (.ref fg16)))
    (lg16 : K.lookup fg16 = some ⟨ocg16, odg16, .func (PySem.W.fnOf "times" "times" (defArgs s_times) (defBody s_times) (defScope s_times) .none kVg16 dcg16 pmg16 ang16 cdg16 ctg16), slg16⟩)
    (cg16 : PySem.W.codeIn K cdg16 "times" = true)
    (kg16 : PySem.W.keepIn K (.ref fg16) = true)
    (ag17 : PySem.W.nsIn K mainGlobals "plus" = some (some (.ref fg17)))
    (lg17 : K.lookup fg17 = some ⟨ocg17, odg17, .func (PySem.W.fnOf "plus" "plus" (defArgs s_plus) (defBody s_plus) (defScope s_plus) .none kVg17 dcg17 pmg17 ang17 cdg17 ctg17), slg17⟩)
    (cg17 : PySem.W.codeIn K cdg17 "plus" = true)
    (kg17 : PySem.W.keepIn K (.ref fg17) = true)
    (ag18 : PySem.W.nsIn K mainGlobals "knot_hangs" = some (some (.ref fg18)))
    (lg18 : K.lookup fg18 = some ⟨ocg18, odg18, .func (PySem.W.fnOf "knot_hangs" "knot_hangs" (defArgs s_knot_hangs) (defBody s_knot_hangs) (defScope s_knot_hangs) .none kVg18 dcg18 pmg18 ang18 cdg18 ctg18), slg18⟩)
    (cg18 : PySem.W.codeIn K cdg18 "knot_hangs" = true)
    (kg18 : PySem.W.keepIn K (.ref fg18) = true)
    (ag19 : PySem.W.nsIn K mainGlobals "hung_numbers" = some (some (.ref fg19)))
    (lg19 : K.lookup fg19 = some ⟨ocg19, odg19, .func (PySem.W.fnOf "hung_numbers" "hung_numbers" (defArgs s_hung_numbers) (defBody s_hung_numbers) (defScope s_hung_numbers) .none kVg19 dcg19 pmg19 ang19 cdg19 ctg19), slg19⟩)
    (cg19 : PySem.W.codeIn K cdg19 "hung_numbers" = true)
    (kg19 : PySem.W.keepIn K (.ref fg19) = true)
    (ag20 : PySem.W.nsIn K mainGlobals "hung_count" = some (some (.ref fg20)))
    (lg20 : K.lookup fg20 = some ⟨ocg20, odg20, .func (PySem.W.fnOf "hung_count" "hung_count" (defArgs s_hung_count) (defBody s_hung_count) (defScope s_hung_count) .none kVg20 dcg20 pmg20 ang20 cdg20 ctg20), slg20⟩)
    (cg20 : PySem.W.codeIn K cdg20 "hung_count" = true)
    (kg20 : PySem.W.keepIn K (.ref fg20) = true)
    (ag21 : PySem.W.nsIn K mainGlobals "_law_box" = some (some (.ref fg21)))
    (lg21 : K.lookup fg21 = some ⟨ocg21, odg21, .func (PySem.W.fnOf "_law_box" "_law_box" (defArgs s_law_box) (defBody s_law_box) (defScope s_law_box) .none kVg21 dcg21 pmg21 ang21 cdg21 ctg21), slg21⟩)
    (cg21 : PySem.W.codeIn K cdg21 "_law_box" = true)
    (kg21 : PySem.W.keepIn K (.ref fg21) = true)
    (ag22 : PySem.W.nsIn K mainGlobals "_law_take" = some (some (.ref fg22)))
    (lg22 : K.lookup fg22 = some ⟨ocg22, odg22, .func (PySem.W.fnOf "_law_take" "_law_take" (defArgs s_law_take) (defBody s_law_take) (defScope s_law_take) .none kVg22 dcg22 pmg22 ang22 cdg22 ctg22), slg22⟩)
    (cg22 : PySem.W.codeIn K cdg22 "_law_take" = true)
    (kg22 : PySem.W.keepIn K (.ref fg22) = true)
    (ag23 : PySem.W.nsIn K mainGlobals "_law_pick" = some (some (.ref fg23)))
    (lg23 : K.lookup fg23 = some ⟨ocg23, odg23, .func (PySem.W.fnOf "_law_pick" "_law_pick" (defArgs s_law_pick) (defBody s_law_pick) (defScope s_law_pick) .none kVg23 dcg23 pmg23 ang23 cdg23 ctg23), slg23⟩)
    (cg23 : PySem.W.codeIn K cdg23 "_law_pick" = true)
    (kg23 : PySem.W.keepIn K (.ref fg23) = true)
    (ag24 : PySem.W.nsIn K mainGlobals "_law_part" = some (some (.ref fg24)))
    (lg24 : K.lookup fg24 = some ⟨ocg24, odg24, .func (PySem.W.fnOf "_law_part" "_law_part" (defArgs s_law_part) (defBody s_law_part) (defScope s_law_part) .none kVg24 dcg24 pmg24 ang24 cdg24 ctg24), slg24⟩)
    (cg24 : PySem.W.codeIn K cdg24 "_law_part" = true)
    (kg24 : PySem.W.keepIn K (.ref fg24) = true)
    (ag25 : PySem.W.nsIn K mainGlobals "_law_lamp" = some (some (.ref fg25)))
    (lg25 : K.lookup fg25 = some ⟨ocg25, odg25, .func (PySem.W.fnOf "_law_lamp" "_law_lamp" (defArgs s_law_lamp) (defBody s_law_lamp) (defScope s_law_lamp) .none kVg25 dcg25 pmg25 ang25 cdg25 ctg25), slg25⟩)
    (cg25 : PySem.W.codeIn K cdg25 "_law_lamp" = true)
    (kg25 : PySem.W.keepIn K (.ref fg25) = true)
    (ag26 : PySem.W.nsIn K mainGlobals "_law_settings" = some (some (.ref fg26)))
    (lg26 : K.lookup fg26 = some ⟨ocg26, odg26, .func (PySem.W.fnOf "_law_settings" "_law_settings" (defArgs s_law_settings) (defBody s_law_settings) (defScope s_law_settings) .none kVg26 dcg26 pmg26 ang26 cdg26 ctg26), slg26⟩)
    (cg26 : PySem.W.codeIn K cdg26 "_law_settings" = true)
    (kg26 : PySem.W.keepIn K (.ref fg26) = true)
    (ag27 : PySem.W.nsIn K mainGlobals "_law_turned" = some (some (.ref fg27)))
    (lg27 : K.lookup fg27 = some ⟨ocg27, odg27, .func (PySem.W.fnOf "_law_turned" "_law_turned" (defArgs s_law_turned) (defBody s_law_turned) (defScope s_law_turned) .none kVg27 dcg27 pmg27 ang27 cdg27 ctg27), slg27⟩)
    (cg27 : PySem.W.codeIn K cdg27 "_law_turned" = true)
    (kg27 : PySem.W.keepIn K (.ref fg27) = true)
    (ag28 : PySem.W.nsIn K mainGlobals "_law_hung" = some (some (.ref fg28)))
    (lg28 : K.lookup fg28 = some ⟨ocg28, odg28, .func (PySem.W.fnOf "_law_hung" "_law_hung" (defArgs s_law_hung) (defBody s_law_hung) (defScope s_law_hung) .none kVg28 dcg28 pmg28 ang28 cdg28 ctg28), slg28⟩)
    (cg28 : PySem.W.codeIn K cdg28 "_law_hung" = true)
    (kg28 : PySem.W.keepIn K (.ref fg28) = true)
    (ag29 : PySem.W.nsIn K mainGlobals "_law_listed" = some (some (.ref fg29)))
    (lg29 : K.lookup fg29 = some ⟨ocg29, odg29, .func (PySem.W.fnOf "_law_listed" "_law_listed" (defArgs s_law_listed) (defBody s_law_listed) (defScope s_law_listed) .none kVg29 dcg29 pmg29 ang29 cdg29 ctg29), slg29⟩)
    (cg29 : PySem.W.codeIn K cdg29 "_law_listed" = true)
    (kg29 : PySem.W.keepIn K (.ref fg29) = true)
    (ag30 : PySem.W.nsIn K mainGlobals "_law_bare" = some (some (.ref fg30)))
    (lg30 : K.lookup fg30 = some ⟨ocg30, odg30, .func (PySem.W.fnOf "_law_bare" "_law_bare" (defArgs s_law_bare) (defBody s_law_bare) (defScope s_law_bare) .none kVg30 dcg30 pmg30 ang30 cdg30 ctg30), slg30⟩)
    (cg30 : PySem.W.codeIn K cdg30 "_law_bare" = true)
    (kg30 : PySem.W.keepIn K (.ref fg30) = true)
    (ag31 : PySem.W.nsIn K mainGlobals "_law_halves" = some (some (.ref fg31)))
    (lg31 : K.lookup fg31 = some ⟨ocg31, odg31, .func (PySem.W.fnOf "_law_halves" "_law_halves" (defArgs s_law_halves) (defBody s_law_halves) (defScope s_law_halves) .none kVg31 dcg31 pmg31 ang31 cdg31 ctg31), slg31⟩)
    (cg31 : PySem.W.codeIn K cdg31 "_law_halves" = true)
    (kg31 : PySem.W.keepIn K (.ref fg31) = true)
    (ag32 : PySem.W.nsIn K mainGlobals "_law_counts" = some (some (.ref fg32)))
    (lg32 : K.lookup fg32 = some ⟨ocg32, odg32, .func (PySem.W.fnOf "_law_counts" "_law_counts" (defArgs s_law_counts) (defBody s_law_counts) (defScope s_law_counts) .none kVg32 dcg32 pmg32 ang32 cdg32 ctg32), slg32⟩)
    (cg32 : PySem.W.codeIn K cdg32 "_law_counts" = true)
    (kg32 : PySem.W.keepIn K (.ref fg32) = true)
    (ag33 : PySem.W.nsIn K mainGlobals "_law_far_right" = some (some (.ref fg33)))
    (lg33 : K.lookup fg33 = some ⟨ocg33, odg33, .func (PySem.W.fnOf "_law_far_right" "_law_far_right" (defArgs s_law_far_right) (defBody s_law_far_right) (defScope s_law_far_right) .none kVg33 dcg33 pmg33 ang33 cdg33 ctg33), slg33⟩)
    (cg33 : PySem.W.codeIn K cdg33 "_law_far_right" = true)
    (kg33 : PySem.W.keepIn K (.ref fg33) = true)
    (ag34 : PySem.W.nsIn K mainGlobals "_law_near_right" = some (some (.ref fg34)))
    (lg34 : K.lookup fg34 = some ⟨ocg34, odg34, .func (PySem.W.fnOf "_law_near_right" "_law_near_right" (defArgs s_law_near_right) (defBody s_law_near_right) (defScope s_law_near_right) .none kVg34 dcg34 pmg34 ang34 cdg34 ctg34), slg34⟩)
    (cg34 : PySem.W.codeIn K cdg34 "_law_near_right" = true)
    (kg34 : PySem.W.keepIn K (.ref fg34) = true)
    (ag35 : PySem.W.nsIn K mainGlobals "law" = some (some (.ref fg35)))
    (lg35 : K.lookup fg35 = some ⟨ocg35, odg35, .func (PySem.W.fnOf "law" "law" (defArgs s_law) (defBody s_law) (defScope s_law) .none kVg35 dcg35 pmg35 ang35 cdg35 ctg35), slg35⟩)
    (cg35 : PySem.W.codeIn K cdg35 "law" = true)
    (kg35 : PySem.W.keepIn K (.ref fg35) = true)
    (am0 : PySem.W.findIn K (.ref C) "__init__" = some (some (.ref fm0)))
    (im0 : PySem.W.isFn K (.ref fm0) = true)
    (lm0 : K.lookup fm0 = some ⟨ocm0, odm0, .func (PySem.W.fnOf "__init__" "Walk.__init__" (defArgs s_Walk_init) (defBody s_Walk_init) (defScope s_Walk_init) .none kVm0 dcm0 pmm0 anm0 cdm0 ctm0), slm0⟩)
    (cm0 : PySem.W.codeIn K cdm0 "Walk.__init__" = true)
    (km0 : PySem.W.keepIn K (.ref fm0) = true)
    (am1 : PySem.W.findIn K (.ref C) "put_row" = some (some (.ref fm1)))
    (im1 : PySem.W.isFn K (.ref fm1) = true)
    (lm1 : K.lookup fm1 = some ⟨ocm1, odm1, .func (PySem.W.fnOf "put_row" "Walk.put_row" (defArgs s_Walk_put_row) (defBody s_Walk_put_row) (defScope s_Walk_put_row) .none kVm1 dcm1 pmm1 anm1 cdm1 ctm1), slm1⟩)
    (cm1 : PySem.W.codeIn K cdm1 "Walk.put_row" = true)
    (km1 : PySem.W.keepIn K (.ref fm1) = true)
    (am2 : PySem.W.findIn K (.ref C) "put_lever" = some (some (.ref fm2)))
    (im2 : PySem.W.isFn K (.ref fm2) = true)
    (lm2 : K.lookup fm2 = some ⟨ocm2, odm2, .func (PySem.W.fnOf "put_lever" "Walk.put_lever" (defArgs s_Walk_put_lever) (defBody s_Walk_put_lever) (defScope s_Walk_put_lever) .none kVm2 dcm2 pmm2 anm2 cdm2 ctm2), slm2⟩)
    (cm2 : PySem.W.codeIn K cdm2 "Walk.put_lever" = true)
    (km2 : PySem.W.keepIn K (.ref fm2) = true)
    (am3 : PySem.W.findIn K (.ref C) "put_knot" = some (some (.ref fm3)))
    (im3 : PySem.W.isFn K (.ref fm3) = true)
    (lm3 : K.lookup fm3 = some ⟨ocm3, odm3, .func (PySem.W.fnOf "put_knot" "Walk.put_knot" (defArgs s_Walk_put_knot) (defBody s_Walk_put_knot) (defScope s_Walk_put_knot) .none kVm3 dcm3 pmm3 anm3 cdm3 ctm3), slm3⟩)
    (cm3 : PySem.W.codeIn K cdm3 "Walk.put_knot" = true)
    (km3 : PySem.W.keepIn K (.ref fm3) = true)
    (aC : PySem.W.nsIn K mainGlobals "Walk" = some (some (.ref C)))
    (pg : PySem.W.plainGet K C Str.empty = true)
    (hd : PySem.W.hasDictIn K C = true)
    (po : PySem.W.plainOver K C = true)
    (sa : PySem.W.findIn K (.ref C) "__setattr__" = some (some (.builtin "object.__setattr__")))
    (mk : PySem.W.makesIn K C = true)
    (kc : PySem.W.keepIn K (.ref C) = true)
    (n0 : PySem.W.findIn K (.ref C) "words" = some none)
    (n1 : PySem.W.findIn K (.ref C) "levers" = some none)
    (n2 : PySem.W.findIn K (.ref C) "parts" = some none)
    (n3 : PySem.W.findIn K (.ref C) "above" = some none)
    (n4 : PySem.W.findIn K (.ref C) "ranks" = some none)
    (n5 : PySem.W.findIn K (.ref C) "rows" = some none)
    (n6 : PySem.W.findIn K (.ref C) "many" = some none)
    (z0 : PySem.W.nsIn K mainGlobals "len" = some none)
    (z1 : PySem.W.nsIn K mainGlobals "isinstance" = some none)
    (z2 : PySem.W.nsIn K mainGlobals "int" = some none)
    (z3 : PySem.W.nsIn K mainGlobals "bool" = some none)
    (z4 : PySem.W.nsIn K mainGlobals "str" = some none)
    (z5 : PySem.W.nsIn K mainGlobals "list" = some none)
    (z6 : PySem.W.nsIn K mainGlobals "tuple" = some none)
    (z7 : PySem.W.nsIn K mainGlobals "range" = some none)
    (z8 : PySem.W.nsIn K mainGlobals "reversed" = some none)
    (z9 : PySem.W.nsIn K mainGlobals "min" = some none)
    (z10 : PySem.W.nsIn K mainGlobals "max" = some none)
    (z11 : PySem.W.nsIn K mainGlobals "sum" = some none)
    (z12 : PySem.W.nsIn K mainGlobals "sorted" = some none)
    (z13 : PySem.W.nsIn K mainGlobals "enumerate" = some none)
    (z14 : PySem.W.nsIn K mainGlobals "zip" = some none)
    (z15 : PySem.W.nsIn K mainGlobals "abs" = some none)
    (z16 : PySem.W.nsIn K mainGlobals "repr" = some none)
    (z17 : PySem.W.nsIn K mainGlobals "KeyError" = some none)
    (aM : PySem.W.nsIn K mainGlobals "MOST_LEVERS" = some (some (.int 200 tM)))
    (aF : PySem.W.nsIn K mainGlobals "FREE" = some (some (.ref pF)))
    (lF : K.lookup pF = some ⟨.type "tuple", dF, .seq #[.int 1 tF1, .int 1 tF2] nF, slF⟩)
    (eC : PySem.W.nsIn K mainGlobals "NoLever" = some (some (.ref Cn)))
    (el : K.lookup Cn = some (KeObj enm eq Cn eN ebs esn esub eab ecol edd e0 e1 e2 e3 e5))
    (esa : PySem.W.findIn K (.ref Cn) "__setattr__" = some (some (.builtin "object.__setattr__")))
    (ega : PySem.W.findIn K (.ref Cn) "__getattribute__" = some (some (.builtin "BaseException.__getattribute__")))
    (egg : PySem.W.findIn K (.ref Cn) "__getattr__" = some none)
    (egc : PySem.W.findIn K (.ref Cn) "__class__" = some (some (.builtin "object.__class__")))
    (eno : PySem.W.findIn K (.ref Cn) "lever" = some none)
    (eiC : PySem.W.findIn K (.ref Cn) "__init__" = some (some (.ref fI)))
    (etI : PySem.W.typeIn K (.ref fI) = some (.type "function"))
    (ekC : PySem.W.keepIn K (.ref Cn) = true)
    (eex : PySem.W.subIn K (.ref Cn) (.type "BaseException") = some true)
    (ety : PySem.W.typeIn K (.ref Cn) = some (.type "type"))
    (ehd : PySem.W.hasDictIn K Cn = true)
    (eis : PySem.W.isClsIn K Cn = true)
    (ese : PySem.W.subIn K (.ref Cn) (.ref Cn) = some true)
    (esp : PySem.W.specialIn K (.builtin "object.__class__") "__get__" = some (some (.builtin "getset_descriptor.__get__")))
    (etk : PySem.W.takesIn K (.builtin "object.__class__") = some true)
    (eob : PySem.W.mroIn K Cn (.type "object") = some true)
    (eke : PySem.W.kitOne K (.ref Cn) (.type "KeyError") = some true)
    (efn : K.lookup fI = some ⟨ioc, iod, .func (PySem.W.fnOf "__init__" "NoLever.__init__" (iArgs ⟨10, 17, 10, 21⟩ ⟨10, 23, 10, 28⟩) (iBody ⟨11, 8, 11, 12⟩ ⟨11, 8, 11, 18⟩ ⟨11, 21, 11, 26⟩ ⟨11, 8, 11, 26⟩) iScope .none .none idoc ipm ian icd ict), iosl⟩)
    (eco : PySem.W.codeIn K icd "NoLever.__init__" = true)
    : ∃ fd : FuncData, (∀ (s : Shared) (u : Value), BindsTo s fd ⟨[u], []⟩ [("_law_script", u)]) ∧ ∀ base : Heap, K.In base → base.Ns mainGlobals mg → FnG l.prog w K mg base CX0 35 fa fd ["_law_script"] (spLaw K) := by
  have e := hfa.symm.trans (PySem.W.mg_of X G ag35)
  cases e
  have nm : Nm mg := ⟨PySem.W.mg_none_of X G z0, PySem.W.mg_none_of X G z1, PySem.W.mg_none_of X G z2, PySem.W.mg_none_of X G z3, PySem.W.mg_none_of X G z4, PySem.W.mg_none_of X G z5, PySem.W.mg_none_of X G z6, PySem.W.mg_none_of X G z7, PySem.W.mg_none_of X G z8, PySem.W.mg_none_of X G z9, PySem.W.mg_none_of X G z10, PySem.W.mg_none_of X G z11, PySem.W.mg_none_of X G z12, PySem.W.mg_none_of X G z13, PySem.W.mg_none_of X G z14, PySem.W.mg_none_of X G z15, PySem.W.mg_none_of X G z16, PySem.W.mg_none_of X G z17⟩
  have T : Nf K mg pF := { toNw := { toNm := nm, g_MOST_LEVERS := ⟨_, PySem.W.mg_of X G aM⟩ }, g_FREE := PySem.W.mg_of X G aF, free := fun H => .inr ⟨_, _, _, lF, rfl, rfl, (by show 2 ≤ sizeLine; decide), .cons ⟨_, rfl⟩ (.cons ⟨_, rfl⟩ .nil)⟩ }
  have cls : Cls K C := ⟨pg, hd, po, sa⟩
  have Z : WT K C := ⟨cls, n0, n1, n2, n3, n4, n5, n6⟩
  have N : NoL K mg Cn fI := { gC := PySem.W.mg_of X G eC, cls := ⟨_, _, _, _, _, _, _, _, _, _, _, _, _, _, el⟩, sa := esa, ga := ega, gg := egg, gc := egc, noN := eno, iC := eiC, tI := etI, kC := ekC, exC := eex, tyC := ety, hdC := ehd, isC := eis, self := ese, spG := esp, tkG := etk, obj := eob, key := eke, fn := ⟨_, _, _, _, _, _, _, _, _, _, _, _, _, _, efn, eco⟩ }
  have Fg0 := fun_mk (st := s_is_integer) lg0 cg0 kg0
  have bg0 := Fg0.binds (ps := ["value"]) fun _ _ _ _ _ _ us hl => match us, hl with | [_], _ => rfl
  have Fg1 := fun_mk (st := s_is_number) lg1 cg1 kg1
  have bg1 := Fg1.binds (ps := ["value"]) fun _ _ _ _ _ _ us hl => match us, hl with | [_], _ => rfl
  have Fg2 := fun_mk (st := s_is_below) lg2 cg2 kg2
  have bg2 := Fg2.binds (ps := ["value", "limit"]) fun _ _ _ _ _ _ us hl => match us, hl with | [_, _], _ => rfl
  have Fg3 := fun_mk (st := s_is_sequence) lg3 cg3 kg3
  have bg3 := Fg3.binds (ps := ["value"]) fun _ _ _ _ _ _ us hl => match us, hl with | [_], _ => rfl
  have Fg4 := fun_mk (st := s_has_length) lg4 cg4 kg4
  have bg4 := Fg4.binds (ps := ["value", "length"]) fun _ _ _ _ _ _ us hl => match us, hl with | [_, _], _ => rfl
  have Fg5 := fun_mk (st := s_is_word) lg5 cg5 kg5
  have bg5 := Fg5.binds (ps := ["value"]) fun _ _ _ _ _ _ us hl => match us, hl with | [_], _ => rfl
  have Fg6 := fun_mk (st := s_check_lever) lg6 cg6 kg6
  have bg6 := Fg6.binds (ps := ["lever", "many"]) fun _ _ _ _ _ _ us hl => match us, hl with | [_, _], _ => rfl
  have Fg7 := fun_mk (st := s_has_knot_form) lg7 cg7 kg7
  have bg7 := Fg7.binds (ps := ["value"]) fun _ _ _ _ _ _ us hl => match us, hl with | [_], _ => rfl
  have Fg8 := fun_mk (st := s_read_form) lg8 cg8 kg8
  have bg8 := Fg8.binds (ps := ["value"]) fun _ _ _ _ _ _ us hl => match us, hl with | [_], _ => rfl
  have Fg9 := fun_mk (st := s_inner_first) lg9 cg9 kg9
  have bg9 := Fg9.binds (ps := ["walk"]) fun _ _ _ _ _ _ us hl => match us, hl with | [_], _ => rfl
  have Fg10 := fun_mk (st := s_least_levers) lg10 cg10 kg10
  have bg10 := Fg10.binds (ps := ["walk"]) fun _ _ _ _ _ _ us hl => match us, hl with | [_], _ => rfl
  have Fg11 := fun_mk (st := s_is_ordered) lg11 cg11 kg11
  have bg11 := Fg11.binds (ps := ["walk"]) fun _ _ _ _ _ _ us hl => match us, hl with | [_], _ => rfl
  have Fg12 := fun_mk (st := s_row_levers) lg12 cg12 kg12
  have bg12 := Fg12.binds (ps := ["walk"]) fun _ _ _ _ _ _ us hl => match us, hl with | [_], _ => rfl
  have Fg13 := fun_mk (st := s_tree_walk) lg13 cg13 kg13
  have bg13 := Fg13.binds (ps := ["value"]) fun _ _ _ _ _ _ us hl => match us, hl with | [_], _ => rfl
  have Fg14 := fun_mk (st := s_product_of) lg14 cg14 kg14
  have bg14 := Fg14.binds (ps := ["numbers"]) fun _ _ _ _ _ _ us hl => match us, hl with | [_], _ => rfl
  have Fg15 := fun_mk (st := s_ways_by_row) lg15 cg15 kg15
  have bg15 := Fg15.binds (ps := ["walk", "ways"]) fun _ _ _ _ _ _ us hl => match us, hl with | [_, _], _ => rfl
  have Fg16 := fun_mk (st := s_times) lg16 cg16 kg16
  have bg16 := Fg16.binds (ps := ["one", "other"]) fun _ _ _ _ _ _ us hl => match us, hl with | [_, _], _ => rfl
  have Fg17 := fun_mk (st := s_plus) lg17 cg17 kg17
  have bg17 := Fg17.binds (ps := ["one", "other"]) fun _ _ _ _ _ _ us hl => match us, hl with | [_, _], _ => rfl
  have Fg18 := fun_mk (st := s_knot_hangs) lg18 cg18 kg18
  have bg18 := Fg18.binds (ps := ["same", "unlike"]) fun _ _ _ _ _ _ us hl => match us, hl with | [_, _], _ => rfl
  have Fg19 := fun_mk (st := s_hung_numbers) lg19 cg19 kg19
  have bg19 := Fg19.binds (ps := ["tree"]) fun _ _ _ _ _ _ us hl => match us, hl with | [_], _ => rfl
  have Fg20 := fun_mk (st := s_hung_count) lg20 cg20 kg20
  have bg20 := Fg20.binds (ps := ["tree", "lever"]) fun _ _ _ _ _ _ us hl => match us, hl with | [_, _], _ => rfl
  have Fg21 := fun_mk (st := s_law_box) lg21 cg21 kg21
  have bg21 := Fg21.binds (ps := ["_law_script", "_law_k"]) fun _ _ _ _ _ _ us hl => match us, hl with | [_, _], _ => rfl
  have Fg22 := fun_mk (st := s_law_take) lg22 cg22 kg22
  have bg22 := Fg22.binds (ps := ["_law_box_here", "_law_many"]) fun _ _ _ _ _ _ us hl => match us, hl with | [_, _], _ => rfl
  have Fg23 := fun_mk (st := s_law_pick) lg23 cg23 kg23
  have bg23 := Fg23.binds (ps := ["_law_box_here", "_law_some"]) fun _ _ _ _ _ _ us hl => match us, hl with | [_, _], _ => rfl
  have Fg24 := fun_mk (st := s_law_part) lg24 cg24 kg24
  have bg24 := Fg24.binds (ps := ["_law_box_here", "_law_levers", "_law_word"]) fun _ _ _ _ _ _ us hl => match us, hl with | [_, _, _], _ => rfl
  have Fg25 := fun_mk (st := s_law_lamp) lg25 cg25 kg25
  have bg25 := Fg25.binds (ps := ["_law_tree", "_law_setting"]) fun _ _ _ _ _ _ us hl => match us, hl with | [_, _], _ => rfl
  have Fg26 := fun_mk (st := s_law_settings) lg26 cg26 kg26
  have bg26 := Fg26.binds (ps := ["_law_many"]) fun _ _ _ _ _ _ us hl => match us, hl with | [_], _ => rfl
  have Fg27 := fun_mk (st := s_law_turned) lg27 cg27 kg27
  have bg27 := Fg27.binds (ps := ["_law_setting", "_law_lever"]) fun _ _ _ _ _ _ us hl => match us, hl with | [_, _], _ => rfl
  have Fg28 := fun_mk (st := s_law_hung) lg28 cg28 kg28
  have bg28 := Fg28.binds (ps := ["_law_tree", "_law_setting"]) fun _ _ _ _ _ _ us hl => match us, hl with | [_, _], _ => rfl
  have Fg29 := fun_mk (st := s_law_listed) lg29 cg29 kg29
  have bg29 := Fg29.binds (ps := ["_law_tree", "_law_many"]) fun _ _ _ _ _ _ us hl => match us, hl with | [_, _], _ => rfl
  have Fg30 := fun_mk (st := s_law_bare) lg30 cg30 kg30
  have bg30 := Fg30.binds (ps := ["_law_row"]) fun _ _ _ _ _ _ us hl => match us, hl with | [_], _ => rfl
  have Fg31 := fun_mk (st := s_law_halves) lg31 cg31 kg31
  have bg31 := Fg31.binds (ps := ["_law_tree"]) fun _ _ _ _ _ _ us hl => match us, hl with | [_], _ => rfl
  have Fg32 := fun_mk (st := s_law_counts) lg32 cg32 kg32
  have bg32 := Fg32.binds (ps := ["_law_tree", "_law_times", "_law_found"]) fun _ _ _ _ _ _ us hl => match us, hl with | [_, _, _], _ => rfl
  have Fg33 := fun_mk (st := s_law_far_right) lg33 cg33 kg33
  have bg33 := Fg33.binds (ps := ["_law_box_here"]) fun _ _ _ _ _ _ us hl => match us, hl with | [_], _ => rfl
  have Fg34 := fun_mk (st := s_law_near_right) lg34 cg34 kg34
  have bg34 := Fg34.binds (ps := ["_law_box_here"]) fun _ _ _ _ _ _ us hl => match us, hl with | [_], _ => rfl
  have Fg35 := fun_mk (st := s_law) lg35 cg35 kg35
  have bg35 := Fg35.binds (ps := ["_law_script"]) fun _ _ _ _ _ _ us hl => match us, hl with | [_], _ => rfl
  have Fm0 := fun_mk (st := s_Walk_init) lm0 cm0 km0
  have bm0 := Fm0.binds (ps := ["self"]) fun _ _ _ _ _ _ us hl => match us, hl with | [_], _ => rfl
  have Fm1 := fun_mk (st := s_Walk_put_row) lm1 cm1 km1
  have bm1 := Fm1.binds (ps := ["self", "word", "lever", "above"]) fun _ _ _ _ _ _ us hl => match us, hl with | [_, _, _, _], _ => rfl
  have Fm2 := fun_mk (st := s_Walk_put_lever) lm2 cm2 km2
  have bm2 := Fm2.binds (ps := ["self", "lever", "above"]) fun _ _ _ _ _ _ us hl => match us, hl with | [_, _, _], _ => rfl
  have Fm3 := fun_mk (st := s_Walk_put_knot) lm3 cm3 km3
  have bm3 := Fm3.binds (ps := ["self", "word", "above"]) fun _ _ _ _ _ _ us hl => match us, hl with | [_, _, _], _ => rfl
  refine ⟨PySem.W.fnOf "law" "law" (defArgs s_law) (defBody s_law) (defScope s_law) .none kVg35 dcg35 pmg35 ang35 cdg35 ctg35, fun s v => .of_eq rfl, fun base hB gB => ?_⟩
  have h_Walk : HasC l.prog w K mg base C 1 "Walk" (spWInit Dl.T C) := ⟨PySem.W.mg_of X G aC, _, _, ⟨mk, am0, im0, kc⟩, ok_winit Fm0 Z, bm0⟩
  have h_m_put_row : HasM l.prog w K mg base C 1 "put_row" ["self", "word", "lever", "above"] (spPutRow Dl.T C) := ⟨cls, _, _, ok_put_row Fm1 Z nm, ⟨am1, im1, km1⟩, bm1⟩
  have h_m_put_lever : HasM l.prog w K mg base C 2 "put_lever" ["self", "lever", "above"] (spPutLever Dl.T C) := ⟨cls, _, _, ok_put_lever Fm2 Z nm h_m_put_row, ⟨am2, im2, km2⟩, bm2⟩
  have h_m_put_knot : HasM l.prog w K mg base C 2 "put_knot" ["self", "word", "above"] (spPutKnot Dl.T C) := ⟨cls, _, _, ok_put_knot Fm3 Z nm h_m_put_row, ⟨am3, im3, km3⟩, bm3⟩
  have h_is_integer : Has l.prog w K mg base (1) "is_integer" ["value"] (spIsInteger K) := ⟨_, _, ok_is_integer Fg0 nm, PySem.W.mg_of X G ag0, kg0, bg0⟩
  have h_is_number : Has l.prog w K mg base (2) "is_number" ["value"] (spIsNumber K) := ⟨_, _, ok_is_number Fg1 h_is_integer, PySem.W.mg_of X G ag1, kg1, bg1⟩
  have h_is_below : Has l.prog w K mg base (3) "is_below" ["value", "limit"] (spBelow K) := ⟨_, _, ok_is_below Fg2 h_is_number, PySem.W.mg_of X G ag2, kg2, bg2⟩
  have h_is_sequence : Has l.prog w K mg base (1) "is_sequence" ["value"] (spIsSequence K) := ⟨_, _, ok_is_sequence Fg3 nm, PySem.W.mg_of X G ag3, kg3, bg3⟩
  have h_has_length : Has l.prog w K mg base (2) "has_length" ["value", "length"] (spHasLength K) := ⟨_, _, ok_has_length Fg4 nm h_is_sequence, PySem.W.mg_of X G ag4, kg4, bg4⟩
  have h_is_word : Has l.prog w K mg base (1) "is_word" ["value"] (spIsWord K) := ⟨_, _, ok_is_word Fg5 nm, PySem.W.mg_of X G ag5, kg5, bg5⟩
  have h_check_lever : Has l.prog w K mg base (4) "check_lever" ["lever", "many"] (spCheck K) := ⟨_, _, ok_check_lever Fg6 h_is_below, PySem.W.mg_of X G ag6, kg6, bg6⟩
  have h_has_knot_form : Has l.prog w K mg base (3) "has_knot_form" ["value"] (spForm K) := ⟨_, _, ok_has_knot_form Fg7 T.toNw h_has_length h_is_word h_is_sequence, PySem.W.mg_of X G ag7, kg7, bg7⟩
  have h_read_form : Has l.prog w K mg base (4) "read_form" ["value"] (spReadForm K C) := ⟨_, _, ok_read_form Fg8 Z T.toNw h_Walk h_is_number h_has_knot_form h_m_put_lever h_m_put_knot, PySem.W.mg_of X G ag8, kg8, bg8⟩
  have h_inner_first : Has l.prog w K mg base (1) "inner_first" ["walk"] (spInner C) := ⟨_, _, ok_inner_first Fg9 Z nm, PySem.W.mg_of X G ag9, kg9, bg9⟩
  have h_least_levers : Has l.prog w K mg base (2) "least_levers" ["walk"] (spLeast C) := ⟨_, _, ok_least_levers Fg10 Z nm h_inner_first, PySem.W.mg_of X G ag10, kg10, bg10⟩
  have h_is_ordered : Has l.prog w K mg base (3) "is_ordered" ["walk"] (spOrdered C) := ⟨_, _, ok_is_ordered Fg11 Z nm h_least_levers, PySem.W.mg_of X G ag11, kg11, bg11⟩
  have h_row_levers : Has l.prog w K mg base (1) "row_levers" ["walk"] (spRowLevers C) := ⟨_, _, ok_row_levers Fg12 Z nm, PySem.W.mg_of X G ag12, kg12, bg12⟩
  have h_tree_walk : Has l.prog w K mg base (5) "tree_walk" ["value"] (spTree K C) := ⟨_, _, ok_tree_walk Fg13 Z nm h_read_form h_row_levers h_is_ordered, PySem.W.mg_of X G ag13, kg13, bg13⟩
  have h_product_of : Has l.prog w K mg base (1) "product_of" ["numbers"] (spProd K) := ⟨_, _, ok_product_of Fg14, PySem.W.mg_of X G ag14, kg14, bg14⟩
  have h_ways_by_row : Has l.prog w K mg base (2) "ways_by_row" ["walk", "ways"] (spWays K C) := ⟨_, _, ok_ways_by_row Fg15 Z nm h_inner_first h_product_of, PySem.W.mg_of X G ag15, kg15, bg15⟩
  have h_times : Has l.prog w K mg base (1) "times" ["one", "other"] (spTimes K) := ⟨_, _, ok_times Fg16 nm, PySem.W.mg_of X G ag16, kg16, bg16⟩
  have h_plus : Has l.prog w K mg base (1) "plus" ["one", "other"] (spPlus K) := ⟨_, _, ok_plus Fg17 nm, PySem.W.mg_of X G ag17, kg17, bg17⟩
  have h_knot_hangs : Has l.prog w K mg base (2) "knot_hangs" ["same", "unlike"] (spKnot K) := ⟨_, _, ok_knot_hangs Fg18 nm h_times h_plus h_product_of, PySem.W.mg_of X G ag18, kg18, bg18⟩
  have h_hung_numbers : Has l.prog w K mg base (6) "hung_numbers" ["tree"] (spHung K) := ⟨_, _, ok_hung_numbers Fg19 Z nm h_tree_walk h_inner_first h_knot_hangs, PySem.W.mg_of X G ag19, kg19, bg19⟩
  have h_hung_count : Has l.prog w K mg base (6) "hung_count" ["tree", "lever"] (spCount K) := ⟨_, _, ok_hung_count Fg20 Z T h_tree_walk h_check_lever h_ways_by_row h_product_of, PySem.W.mg_of X G ag20, kg20, bg20⟩
  have h__law_box : Has l.prog w K mg base (1) "_law_box" ["_law_script", "_law_k"] (spBox K) := ⟨_, _, ok_law_box Fg21 nm, PySem.W.mg_of X G ag21, kg21, bg21⟩
  have h__law_take : Has l.prog w K mg base (1) "_law_take" ["_law_box_here", "_law_many"] (spTake) := ⟨_, _, ok_law_take Fg22 nm, PySem.W.mg_of X G ag22, kg22, bg22⟩
  have h__law_pick : Has l.prog w K mg base (2) "_law_pick" ["_law_box_here", "_law_some"] (spPick K) := ⟨_, _, ok_law_pick Fg23 nm h__law_take, PySem.W.mg_of X G ag23, kg23, bg23⟩
  have h__law_part : ∀ n : Nat, Has l.prog w K mg base (n + 3) "_law_part" ["_law_box_here", "_law_levers", "_law_word"] (spPart K n) := fun n => ⟨_, _, (ok_law_part Fg24 nm (PySem.W.mg_of X G ag24) kg24 bg24 h__law_take h__law_pick) n, PySem.W.mg_of X G ag24, kg24, bg24⟩
  have h__law_lamp : ∀ n : Nat, Has l.prog w K mg base (n + 1) "_law_lamp" ["_law_tree", "_law_setting"] (spLamp K n) := fun n => ⟨_, _, (ok_law_lamp Fg25 nm (PySem.W.mg_of X G ag25) kg25 bg25) n, PySem.W.mg_of X G ag25, kg25, bg25⟩
  have h__law_settings : Has l.prog w K mg base (1) "_law_settings" ["_law_many"] (spSettings K) := ⟨_, _, ok_law_settings Fg26 nm, PySem.W.mg_of X G ag26, kg26, bg26⟩
  have h__law_turned : Has l.prog w K mg base (1) "_law_turned" ["_law_setting", "_law_lever"] (spTurned K) := ⟨_, _, ok_law_turned Fg27, PySem.W.mg_of X G ag27, kg27, bg27⟩
  have h__law_hung : ∀ n : Nat, Has l.prog w K mg base (n + 2) "_law_hung" ["_law_tree", "_law_setting"] (spHungL K n) := fun n => ⟨_, _, ok_law_hung Fg28 nm (h__law_lamp n) h__law_turned, PySem.W.mg_of X G ag28, kg28, bg28⟩
  have h__law_listed : ∀ n : Nat, Has l.prog w K mg base (n + 3) "_law_listed" ["_law_tree", "_law_many"] (spListed K n) := fun n => ⟨_, _, ok_law_listed Fg29 nm h__law_settings (h__law_lamp n) (h__law_hung n), PySem.W.mg_of X G ag29, kg29, bg29⟩
  have h__law_bare : Has l.prog w K mg base (1) "_law_bare" ["_law_row"] (spBare K) := ⟨_, _, ok_law_bare Fg30 nm, PySem.W.mg_of X G ag30, kg30, bg30⟩
  have h__law_halves : ∀ n : Nat, Has l.prog w K mg base (n + 1) "_law_halves" ["_law_tree"] (spHalves K n) := fun n => ⟨_, _, (ok_law_halves Fg31 nm (PySem.W.mg_of X G ag31) kg31 bg31) n, PySem.W.mg_of X G ag31, kg31, bg31⟩
  have h__law_counts : ∀ n : Nat, Has l.prog w K mg base (n + 1) "_law_counts" ["_law_tree", "_law_times", "_law_found"] (spCounts K n) := fun n => ⟨_, _, (ok_law_counts Fg32 nm (PySem.W.mg_of X G ag32) kg32 bg32 h__law_halves) n, PySem.W.mg_of X G ag32, kg32, bg32⟩
  have h__law_far_right : Has l.prog w K mg base (34) "_law_far_right" ["_law_box_here"] (spNear) := ⟨_, _, ok_far Fg33 nm h__law_take (h__law_part 30) h_hung_numbers h_hung_count (h__law_halves 30) (h__law_counts 30), PySem.W.mg_of X G ag33, kg33, bg33⟩
  have kw_numbers : HasKw l.prog w K mg base 6 "hung_numbers" ["tree"] ["tree"] kw1 kw1 (spHung K) := ⟨_, _, ok_hung_numbers Fg19 Z nm h_tree_walk h_inner_first h_knot_hangs, PySem.W.mg_of X G ag19, kg19, kb1 Fg19 fun _ _ _ _ _ _ _ => rfl⟩
  have kw_count : HasKw l.prog w K mg base 6 "hung_count" ["tree", "lever"] ["lever", "tree"] kw2 kw2 (spCount K) := ⟨_, _, ok_hung_count Fg20 Z T h_tree_walk h_check_lever h_ways_by_row h_product_of, PySem.W.mg_of X G ag20, kg20, kb2 Fg20 fun _ _ _ _ _ _ _ _ => rfl⟩
  have Gc := ok_check_bad (P := l.prog) (w := w) (mg := mg) (base := base) Fg6 N h_is_below
  have Gb := ok_hung_bad Fg20 Z T h_tree_walk Gc (PySem.W.mg_of X G ag6) kg6 bg6 h_ways_by_row h_product_of
  have h_near : HasG l.prog w K mg base 9 "_law_near_right" ["_law_box_here"] spNear := ⟨_, _, ok_near Fg34 nm N h__law_pick (h__law_part 5) (h__law_listed 5) h__law_bare h_hung_numbers h_hung_count kw_numbers kw_count Gb (PySem.W.mg_of X G ag20) kg20 bg20, PySem.W.mg_of X G ag34, kg34, bg34⟩
  exact ok_law Fg35 h__law_box h_near h__law_far_right
end Dl

namespace Dl
open PySem L2 Evl Dt Dk
theorem walk {l : PySem.W.OpenLaw} {q : Program} {loose : List Str} {XP : (Str → Option Value) → Heap → Prop} {YP : World → Heap → Prop} {d : DefRec} {K : Params → PySem.W.Frag} (hn : l.most = some 63) (hdf : d.params.defaults = [])
    (hY : ∀ (w : World) (h : Heap), YP w h → (K w.params).In h)
    (F : ∀ (w : World) (mg : Str → Option Value) (fa : Addr) (h : Heap), (K w.params).In h → h.Ns mainGlobals mg → mg d.name = some (.ref fa) →
      ∃ fd : FuncData, (∀ (s : Shared) (u : Value), BindsTo s fd ⟨[u], []⟩ [("_law_script", u)]) ∧ ∀ base : Heap, (K w.params).In base → base.Ns mainGlobals mg → FnG l.prog w (K w.params) mg base CX0 35 fa fd ["_law_script"] (spLaw (K w.params))) :
    PySem.W.WalkO q loose XP YP l.row.toRowW d [] (fun f vs => PySem.call f vs) :=
  walkG (n := 63) (k := 35) (x := "_law_script") (CX := CX0) (sp := spLaw) hn (by decide) hdf ⟨rfl, by decide, by decide⟩ hY (fun w mg fa h _ => F w mg fa h) (fun K H a ns hl _ hS => ⟨.ref a, ns, rfl, ⟨a, rfl, hS⟩, by omega, fun _ => rfl⟩) fun _ _ _ _ z => z
end Dl
open PySem PySem.W PyProof.Rows in
set_option maxRecDepth 100000 in
set_option maxHeartbeats 0 in
theorem PySem.Challenge.cw_deadlevers_k10_whole_drawn_settings_coun_holds : PySem.Challenge.rw_deadlevers_k10_whole_drawn_settings_coun.Holds := by
  w_on; o_law; k_head; (case hw => w_witness2)
  k_fill
  refine Dl.walk (l := PySem.Challenge.rw_deadlevers_k10_whole_drawn_settings_coun) rfl rfl (fun w h Y => PySem.W.kIn_of Y) ?F
  case F =>
    intro w mg fa h KX G hmg
    refine' Dl.all_mk KX G hmg ?ag0 ?lg0 ?cg0 ?kg0 ?ag1 ?lg1 ?cg1 ?kg1 ?ag2 ?lg2 ?cg2 ?kg2 ?ag3 ?lg3 ?cg3 ?kg3 ?ag4 ?lg4 ?cg4 ?kg4 ?ag5 ?lg5 ?cg5 ?kg5 ?ag6 ?lg6 ?cg6 ?kg6 ?ag7 ?lg7 ?cg7 ?kg7 ?ag8 ?lg8 ?cg8 ?kg8 ?ag9 ?lg9 ?cg9 ?kg9 ?ag10 ?lg10 ?cg10 ?kg10 ?ag11 ?lg11 ?cg11 ?kg11 ?ag12 ?lg12 ?cg12 ?kg12 ?ag13 ?lg13 ?cg13 ?kg13 ?ag14 ?lg14 ?cg14 ?kg14 ?ag15 ?lg15 ?cg15 ?kg15 ?ag16 ?lg16 ?cg16 ?kg16 ?ag17 ?lg17 ?cg17 ?kg17 ?ag18 ?lg18 ?cg18 ?kg18 ?ag19 ?lg19 ?cg19 ?kg19 ?ag20 ?lg20 ?cg20 ?kg20 ?ag21 ?lg21 ?cg21 ?kg21 ?ag22 ?lg22 ?cg22 ?kg22 ?ag23 ?lg23 ?cg23 ?kg23 ?ag24 ?lg24 ?cg24 ?kg24 ?ag25 ?lg25 ?cg25 ?kg25 ?ag26 ?lg26 ?cg26 ?kg26 ?ag27 ?lg27 ?cg27 ?kg27 ?ag28 ?lg28 ?cg28 ?kg28 ?ag29 ?lg29 ?cg29 ?kg29 ?ag30 ?lg30 ?cg30 ?kg30 ?ag31 ?lg31 ?cg31 ?kg31 ?ag32 ?lg32 ?cg32 ?kg32 ?ag33 ?lg33 ?cg33 ?kg33 ?ag34 ?lg34 ?cg34 ?kg34 ?ag35 ?lg35 ?cg35 ?kg35 ?am0 ?im0 ?lm0 ?cm0 ?km0 ?am1 ?im1 ?lm1 ?cm1 ?km1 ?am2 ?im2 ?lm2 ?cm2 ?km2 ?am3 ?im3 ?lm3 ?cm3 ?km3 ?aC ?pg ?hd ?po ?sa ?mk ?kc ?n0 ?n1 ?n2 ?n3 ?n4 ?n5 ?n6 ?z0 ?z1 ?z2 ?z3 ?z4 ?z5 ?z6 ?z7 ?z8 ?z9 ?z10 ?z11 ?z12 ?z13 ?z14 ?z15 ?z16 ?z17 ?aM ?aF ?lF ?eC ?el ?esa ?ega ?egg ?egc ?eno ?eiC ?etI ?ekC ?eex ?ety ?ehd ?eis ?ese ?esp ?etk ?eob ?eke ?efn ?eco
    (case aC => k_is)
    (case ag0 => k_is)
    (case lg0 => k_is)
    (case cg0 => k_is)
    (case kg0 => k_is)
    (case ag1 => k_is)
    (case lg1 => k_is)
    (case cg1 => k_is)
    (case kg1 => k_is)
    (case ag2 => k_is)
    (case lg2 => k_is)
    (case cg2 => k_is)
    (case kg2 => k_is)
    (case ag3 => k_is)
    (case lg3 => k_is)
    (case cg3 => k_is)
    (case kg3 => k_is)
    (case ag4 => k_is)
    (case lg4 => k_is)
    (case cg4 => k_is)
    (case kg4 => k_is)
    (case ag5 => k_is)
    (case lg5 => k_is)
    (case cg5 => k_is)
    (case kg5 => k_is)
    (case ag6 => k_is)
    (case lg6 => k_is)
    (case cg6 => k_is)
    (case kg6 => k_is)
    (case ag7 => k_is)
    (case lg7 => k_is)
    (case cg7 => k_is)
    (case kg7 => k_is)
    (case ag8 => k_is)
    (case lg8 => k_is)
    (case cg8 => k_is)
    (case kg8 => k_is)
    (case ag9 => k_is)
    (case lg9 => k_is)
    (case cg9 => k_is)
    (case kg9 => k_is)
    (case ag10 => k_is)
    (case lg10 => k_is)
    (case cg10 => k_is)
    (case kg10 => k_is)
    (case ag11 => k_is)
    (case lg11 => k_is)
    (case cg11 => k_is)
    (case kg11 => k_is)
    (case ag12 => k_is)
    (case lg12 => k_is)
    (case cg12 => k_is)
    (case kg12 => k_is)
    (case ag13 => k_is)
    (case lg13 => k_is)
    (case cg13 => k_is)
    (case kg13 => k_is)
    (case ag14 => k_is)
    (case lg14 => k_is)
    (case cg14 => k_is)
    (case kg14 => k_is)
    (case ag15 => k_is)
    (case lg15 => k_is)
    (case cg15 => k_is)
    (case kg15 => k_is)
    (case ag16 => k_is)
    (case lg16 => k_is)
    (case cg16 => k_is)
    (case kg16 => k_is)
    (case ag17 => k_is)
    (case lg17 => k_is)
    (case cg17 => k_is)
    (case kg17 => k_is)
    (case ag18 => k_is)
    (case lg18 => k_is)
    (case cg18 => k_is)
    (case kg18 => k_is)
    (case ag19 => k_is)
    (case lg19 => k_is)
    (case cg19 => k_is)
    (case kg19 => k_is)
    (case ag20 => k_is)
    (case lg20 => k_is)
    (case cg20 => k_is)
    (case kg20 => k_is)
    (case ag21 => k_is)
    (case lg21 => k_is)
    (case cg21 => k_is)
    (case kg21 => k_is)
    (case ag22 => k_is)
    (case lg22 => k_is)
    (case cg22 => k_is)
    (case kg22 => k_is)
    (case ag23 => k_is)
    (case lg23 => k_is)
    (case cg23 => k_is)
    (case kg23 => k_is)
    (case ag24 => k_is)
    (case lg24 => k_is)
    (case cg24 => k_is)
    (case kg24 => k_is)
    (case ag25 => k_is)
    (case lg25 => k_is)
    (case cg25 => k_is)
    (case kg25 => k_is)
    (case ag26 => k_is)
    (case lg26 => k_is)
    (case cg26 => k_is)
    (case kg26 => k_is)
    (case ag27 => k_is)
    (case lg27 => k_is)
    (case cg27 => k_is)
    (case kg27 => k_is)
    (case ag28 => k_is)
    (case lg28 => k_is)
    (case cg28 => k_is)
    (case kg28 => k_is)
    (case ag29 => k_is)
    (case lg29 => k_is)
    (case cg29 => k_is)
    (case kg29 => k_is)
    (case ag30 => k_is)
    (case lg30 => k_is)
    (case cg30 => k_is)
    (case kg30 => k_is)
    (case ag31 => k_is)
    (case lg31 => k_is)
    (case cg31 => k_is)
    (case kg31 => k_is)
    (case ag32 => k_is)
    (case lg32 => k_is)
    (case cg32 => k_is)
    (case kg32 => k_is)
    (case ag33 => k_is)
    (case lg33 => k_is)
    (case cg33 => k_is)
    (case kg33 => k_is)
    (case ag34 => k_is)
    (case lg34 => k_is)
    (case cg34 => k_is)
    (case kg34 => k_is)
    (case ag35 => k_is)
    (case lg35 => k_is)
    (case cg35 => k_is)
    (case kg35 => k_is)
    (case am0 => k_is)
    (case im0 => k_is)
    (case lm0 => k_is)
    (case cm0 => k_is)
    (case km0 => k_is)
    (case am1 => k_is)
    (case im1 => k_is)
    (case lm1 => k_is)
    (case cm1 => k_is)
    (case km1 => k_is)
    (case am2 => k_is)
    (case im2 => k_is)
    (case lm2 => k_is)
    (case cm2 => k_is)
    (case km2 => k_is)
    (case am3 => k_is)
    (case im3 => k_is)
    (case lm3 => k_is)
    (case cm3 => k_is)
    (case km3 => k_is)
    (case pg => k_is)
    (case hd => k_is)
    (case po => k_is)
    (case sa => k_is)
    (case mk => k_is)
    (case kc => k_is)
    (case n0 => k_is)
    (case n1 => k_is)
    (case n2 => k_is)
    (case n3 => k_is)
    (case n4 => k_is)
    (case n5 => k_is)
    (case n6 => k_is)
    (case z0 => k_is)
    (case z1 => k_is)
    (case z2 => k_is)
    (case z3 => k_is)
    (case z4 => k_is)
    (case z5 => k_is)
    (case z6 => k_is)
    (case z7 => k_is)
    (case z8 => k_is)
    (case z9 => k_is)
    (case z10 => k_is)
    (case z11 => k_is)
    (case z12 => k_is)
    (case z13 => k_is)
    (case z14 => k_is)
    (case z15 => k_is)
    (case z16 => k_is)
    (case z17 => k_is)
    (case aM => k_is)
    (case aF => k_is)
    (case lF => k_is)
    (case eC => k_is)
    (case el => k_is)
    (case esa => k_is)
    (case ega => k_is)
    (case egg => k_is)
    (case egc => k_is)
    (case eno => k_is)
    (case eiC => k_is)
    (case etI => k_is)
    (case ekC => k_is)
    (case eex => k_is)
    (case ety => k_is)
    (case ehd => k_is)
    (case eis => k_is)
    (case ese => k_is)
    (case esp => k_is)
    (case etk => k_is)
    (case eob => k_is)
    (case eke => exact rfl)
    (case efn => k_is)
    (case eco => k_is)

