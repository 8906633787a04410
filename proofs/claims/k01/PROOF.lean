import PyProof.Rows.All
import Wide.All
import OpenK.AllK
import Wide.FinOn
import HandS.ForMost
import HandS.IsInst
import HandS.Walk
import PySem.Challenge.RW_seedreach_k01_likes_and_worths
set_option Elab.async false
set_option linter.all false
set_option maxRecDepth 100000
set_option maxHeartbeats 4000000
namespace L2
open PySem PySem.Spec PyProof.Rows
/-! ### readings, one step a lemma -/
section
variable {σ : St} {H : Hp} {Q : VK} {i j : Int} {n : Nat} {v : V} {ta tb tc te : TE} {K : PySem.W.Frag} {a p : Addr} {xs ys : List V} {z z' : Str}
theorem x_var (h : σ[n]? = some (some v)) (q : Q v H) : tVar n σ H Q := ⟨v, h, q⟩
theorem x_c (q : Q v H) : tC v σ H Q := q
theorem x_op {r : R2} (q : ta σ H fun x H1 => tb σ H1 fun y H2 => r x y H2 Q) : tOp r ta tb σ H Q := q
theorem x_un {r : V → Hp → VK → Prop} (q : ta σ H fun x H1 => r x H1 Q) : tUn r ta σ H Q := q
theorem x_rI {C : Int → Int → Prop} {g : Int → Int → V} (h : C i j) (q : Q (g i j) H) : rI C g (.int i) (.int j) H Q := ⟨i, j, rfl, rfl, h, q⟩
theorem x_rI0 {g : Int → Int → V} (q : Q (g i j) H) : rI0 g (.int i) (.int j) H Q := ⟨i, j, rfl, rfl, q⟩
theorem x_rU {g : Int → V} (q : Q (g i) H) : rU g (.int i) H Q := ⟨i, rfl, q⟩
theorem x_rEq {x y : V} (h : scal x y = true) (q : Q (.bl (decide (x = y))) H) : rEq x y H Q := ⟨h, q⟩
theorem x_rNe {x y : V} (h : scal x y = true) (q : Q (.bl (!decide (x = y))) H) : rNe x y H Q := ⟨h, q⟩
theorem x_test {t : TE} {R : Bool → Hp → Prop} (q : t σ H fun x H' => ∃ k, x = .bl k ∧ R k H') : tTest t σ H R := q
theorem x_b {t : TE} {R : Bool → Hp → Prop} (q : t σ H fun x H' => ∃ k, x = .bl k ∧ R k H') : tB t σ H R := q
theorem x_bl {b : Bool} {R : Bool → Prop} (q : R b) : ∃ k, V.bl b = V.bl k ∧ R k := ⟨b, rfl, q⟩
theorem x_ifE {t : TT} (q : t σ H fun c H1 => if c = true then ta σ H1 Q else tb σ H1 Q) : tIf t ta tb σ H Q := q
theorem x_ifS {t : TT} {u1 u2 : TS} {D : Ends} (q : t σ H fun c H1 => if c = true then u1 D σ H1 else u2 D σ H1) : tIfS t u1 u2 D σ H := q
theorem x_and {t u : TT} {R : Bool → Hp → Prop} (q : t σ H fun c H1 => if c = true then u σ H1 R else R false H1) : tAnd t u σ H R := q
theorem x_or {t u : TT} {R : Bool → Hp → Prop} (q : t σ H fun c H1 => if c = true then R true H1 else u σ H1 R) : tOr t u σ H R := q
theorem x_not {t : TT} {R : Bool → Hp → Prop} (q : t σ H fun c H1 => R (!c) H1) : tNot t σ H R := q
theorem x_notV (q : ta σ H fun x H1 => ∃ c, x = .bl c ∧ Q (.bl (!c)) H1) : tNotV ta σ H Q := q
theorem x_andV (q : ta σ H fun x H1 => ∃ c, x = .bl c ∧ if c = true then tb σ H1 Q else Q (.bl false) H1) : tAndV ta tb σ H Q := q
theorem x_orV (q : ta σ H fun x H1 => ∃ c, x = .bl c ∧ if c = true then Q (.bl true) H1 else tb σ H1 Q) : tOrV ta tb σ H Q := q
theorem x_cons {tr : TA} {R : List V → Hp → Prop} (q : ta σ H fun x H1 => tr σ H1 fun xs H2 => R (x :: xs) H2) : tCons ta tr σ H R := q
theorem x_nil {R : List V → Hp → Prop} (q : R [] H) : tNil σ H R := q
theorem x_tup {t : TA} (q : t σ H fun xs H1 => xs.length ≤ sizeLine ∧ ∀ p, H1 p = none → Q (.ref p) (upd H1 p (.tup xs))) : tTup t σ H Q := q
theorem x_lst {t : TA} (q : t σ H fun xs H1 => xs.length ≤ sizeLine ∧ ∀ p, H1 p = none → Q (.ref p) (upd H1 p (.lst xs))) : tLst t σ H Q := q
theorem x_cb {r : List V → Hp → VK → Prop} {t : TA} (q : t σ H fun vs H1 => r vs H1 Q) : tCB r t σ H Q := q
theorem x_call {sp : Sp} {dvs : List V} {E : XK} {t : TA} (q : t σ H fun vs H1 => sp (vs ++ dvs) H1 Q E) : tCall sp dvs E t σ H Q := q
theorem x_ixL (h : SqL K H p xs) (e : atI xs i = some v) (q : Q v H) : rIxL K (.ref p) (.int i) H Q := ⟨p, xs, i, v, rfl, rfl, h, e, q⟩
theorem x_ixT (h : SqT K H p xs) (e : atI xs i = some v) (q : Q v H) : rIxT K (.ref p) (.int i) H Q := ⟨p, xs, i, v, rfl, rfl, h, e, q⟩
theorem x_ixS {c : Nat} (h : z.length ≤ sizeLine) (e : atI z.cps.toList i = some c) (q : Q (.str ⟨#[c]⟩) H) : rIxS (.str z) (.int i) H Q := ⟨z, i, c, rfl, rfl, h, e, q⟩
theorem x_lenL {R : List V → Prop} (h : SqL K H p ys ∨ SqT K H p ys) (q : R ys) : ∃ (p' : Addr) (ys : List V), [V.ref p] = [V.ref p'] ∧ (SqL K H p' ys ∨ SqT K H p' ys) ∧ R ys := ⟨p, ys, rfl, h, q⟩
theorem x_lenS {R : Str → Prop} (h : z.length ≤ sizeLine) (q : R z) : ∃ z', [V.str z] = [V.str z'] ∧ z'.length ≤ sizeLine ∧ R z' := ⟨z, rfl, h, q⟩
theorem x_two {R : Int → Int → Prop} (q : R i j) : ∃ i' j', [V.int i, V.int j] = [V.int i', V.int j'] ∧ R i' j' := ⟨i, j, rfl, q⟩
theorem x_intB {R : Int → Prop} {S : Bool → Prop} {k : Bool} (q : S k) : (∃ i, [V.bl k] = [V.int i] ∧ R i) ∨ ∃ k', [V.bl k] = [V.bl k'] ∧ S k' := .inr ⟨k, rfl, q⟩
theorem x_addS {R : Str → Str → Prop} (h : z.length + z'.length ≤ sizeLine) (q : R z z') : ∃ i j, V.str z = V.str i ∧ V.str z' = V.str j ∧ i.length + j.length ≤ sizeLine ∧ R i j := ⟨z, z', rfl, rfl, h, q⟩
theorem x_chain {r r' : R2} (q : ta σ H fun x H1 => tb σ H1 fun y H2 => r x y H2 fun z H3 => ∃ k, z = .bl k ∧ if k = true then tc σ H3 fun w H4 => r' y w H4 Q else Q (.bl false) H3) : tChain r r' ta tb tc σ H Q := q
theorem x_seq {t u : TS} {D : Ends} (q : t { D with nx := u D } σ H) : tSeq t u D σ H := q
theorem x_next {D : Ends} (q : D.nx σ H) : tNext D σ H := q
theorem x_asg {g : TG} {D : Ends} (q : te σ H fun x H1 => g x σ H1 D.nx) : tAsg te g D σ H := q
theorem x_name {R : St → Hp → Prop} (q : R (σ.set n (some v)) H) : gName n v σ H R := q
theorem x_drop {D : Ends} (q : te σ H fun _ H1 => D.nx σ H1) : tDrop te D σ H := q
theorem x_ret {D : Ends} (q : te σ H D.rt) : tRet te D σ H := q
theorem x_gTup {t : TGs} {R : St → Hp → Prop} (h : SqT K H a xs) (hl : xs.length = n) (q : t xs σ H R) : gTup K n t (.ref a) σ H R := ⟨a, xs, rfl, h, hl, q⟩
theorem x_gCons {t : TG} {u : TGs} {vs : List V} {R : St → Hp → Prop} (q : t v σ H fun σ' H' => u vs σ' H' R) : gCons t u (v :: vs) σ H R := ⟨v, vs, rfl, q⟩
theorem x_gNil {R : St → Hp → Prop} (q : R σ H) : gNil [] σ H R := ⟨rfl, q⟩
theorem x_gSub {to ti : TE} {t : TSet} {R : St → Hp → Prop} (q : to σ H fun o H1 => ti σ H1 fun i H2 => t o i v H2 fun H3 => R σ H3) : gSub to ti t v σ H R := q
theorem x_setL {k : Nat} {R : Hp → Prop} (h : H p = some (.lst xs)) (e : ixN xs.length i = some k) (q : R (upd H p (.lst (xs.set k v)))) : rSetL (.ref p) (.int i) v H R := ⟨p, xs, i, k, rfl, rfl, h, e, q⟩
theorem x_bm {T : String} {r : V → List V → Hp → VK → Prop} {to : TE} {t : TA} (q : to σ H fun x H1 => tyV K T x H1 ∧ t σ H1 fun xs H2 => r x xs H2 Q) : tBM K T r to t σ H Q := q
theorem x_m1 {r : V → List V → Hp → VK → Prop} {to : TE} (q : to σ H fun x H1 => (∃ a, x = .str a) ∧ te σ H1 fun y H2 => r x [y] H2 Q) : tM1 r to te σ H Q := q
theorem x_m1s {R : Prop} (q : R) : (∃ a, V.str z = V.str a) ∧ R := ⟨⟨z, rfl⟩, q⟩
theorem x_sl {r : V → Option Int → Option Int → Hp → VK → Prop} {tl th : TO} (q : te σ H fun x H1 => tl σ H1 fun l H2 => th σ H2 fun u H3 => r x l u H3 Q) : tSl r te tl th σ H Q := q
theorem x_noPart {R : Option Int → Hp → Prop} (q : R none H) : tNoPart σ H R := q
theorem x_part {R : Option Int → Hp → Prop} (q : te σ H fun x H1 => ∃ i, x = .int i ∧ R (some i) H1) : tPart te σ H R := q
theorem x_parti {R : Int → Prop} (q : R i) : ∃ i', V.int i = V.int i' ∧ R i' := ⟨i, rfl, q⟩
theorem x_slS {lo hi : Option Int} (h : z.length ≤ sizeLine) (q : Q (.str (cutS z lo hi)) H) : rSlS (.str z) lo hi H Q := ⟨z, rfl, h, q⟩
theorem x_rng1 {t : TA} {R : It → Hp → Prop} (q : t σ H fun vs H1 => ∃ j : Int, vs = [.int j] ∧ -(2 ^ 62) ≤ j ∧ j < 2 ^ 62 ∧ R (Itr 0 j.toNat) H1) : iRng1 t σ H R := q
theorem x_rng1i {R : Int → Prop} (h1 : -(2 ^ 62) ≤ i) (h2 : i < 2 ^ 62) (q : R i) : ∃ j : Int, [V.int i] = [V.int j] ∧ -(2 ^ 62) ≤ j ∧ j < 2 ^ 62 ∧ R j := ⟨i, rfl, h1, h2, q⟩
theorem x_rng2 {t : TA} {R : It → Hp → Prop} (q : t σ H fun vs H1 => ∃ i j : Int, vs = [.int i, .int j] ∧ (-(2 ^ 62) ≤ i ∧ i < 2 ^ 62 ∧ -(2 ^ 62) ≤ j ∧ j < 2 ^ 62) ∧ R (Itr i (j - i).toNat) H1) : iRng2 t σ H R := q
theorem x_rng2i {R : Int → Int → Prop} (h : -(2 ^ 62) ≤ i ∧ i < 2 ^ 62 ∧ -(2 ^ 62) ≤ j ∧ j < 2 ^ 62) (q : R i j) : ∃ i' j' : Int, [V.int i, V.int j] = [V.int i', V.int j'] ∧ (-(2 ^ 62) ≤ i' ∧ i' < 2 ^ 62 ∧ -(2 ^ 62) ≤ j' ∧ j' < 2 ^ 62) ∧ R i' j' := ⟨i, j, rfl, h, q⟩
theorem x_lcR {g : TG} {tt : TT} {vs : List Nat} {wi : TI} (q : wi σ H fun J H1 => ∀ D, H1 D = none → ∃ W : Nat → Nat → Hp → Prop, (∃ m, W 0 m (upd H1 D (.lst []))) ∧ ∀ i m H, W i m H →
  (J.stop i H ∧ Q (.ref D) H) ∨ (J.go i H ∧ ∃ Nx : Hp → Prop, (∀ H', Nx H' → ∃ m', m' < m ∧ W (i + 1) m' H') ∧ ∀ x H', J.yld i H x H' → g x (wipe σ vs) H' fun σ2 H2 => wipe σ2 vs = wipe σ vs ∧ tt σ2 H2 fun b H3 =>
    if b = true then te σ2 H3 fun y H4 => ∃ acc, H4 D = some (.lst acc) ∧ acc.length < sizeLine ∧ Nx (upd H4 D (.lst (acc ++ [y]))) else Nx H3)) : tLc wi g tt te vs σ H Q := q
theorem x_yes {R : Bool → Hp → Prop} (q : R true H) : tYes σ H R := q
theorem x_iList {R : It → Hp → Prop} {tl : TE} (q : tl σ H fun x H1 => ∃ a, x = .ref a ∧ (∃ xs, SqL K H1 a xs) ∧ R (Itl K a) H1) : iList K tl σ H R := q
theorem x_iListi {R : Addr → Prop} (h : SqL K H a xs) (q : R a) : ∃ a', V.ref a = V.ref a' ∧ (∃ xs, SqL K H a' xs) ∧ R a' := ⟨a, rfl, ⟨xs, h⟩, q⟩
theorem x_iStr {R : It → Hp → Prop} (q : te σ H fun v H1 => ∃ x, v = .str x ∧ R (Its x) H1) : iStr te σ H R := q
theorem x_iStri {R : Str → Prop} (q : R z) : ∃ z', V.str z = V.str z' ∧ R z' := ⟨z, rfl, q⟩
theorem x_for {wi : TI} {g : TG} {tb : TS} {D : Ends} (q : wi σ H fun J H1 => ∃ W : Nat → Nat → St → Hp → Prop, (∃ m, W 0 m σ H1) ∧ ∀ i m σ H, W i m σ H →
    ((J.stop i H ∧ D.nx σ H) ∨ (J.go i H ∧ ∃ N : St → Hp → Prop, (∀ σ' H', N σ' H' → ∃ m', m' < m ∧ W (i + 1) m' σ' H') ∧ ∀ x H', J.yld i H x H' → g x σ H' fun σ2 H2 => tb { D with nx := N, ct := N, bk := D.nx } σ2 H2))) : tFor wi g tb D σ H := q
theorem x_append (h : H p = some (.lst xs)) (hl : xs.length < sizeLine) (q : Q .non (upd H p (.lst (xs ++ [v])))) : rAppend (.ref p) [v] H Q := ⟨p, xs, v, rfl, rfl, h, hl, q⟩
theorem x_s1 {R : Str → Str → Prop} (q : R z z') : ∃ a b, V.str z = V.str a ∧ [V.str z'] = [V.str b] ∧ R a b := ⟨z, z', rfl, rfl, q⟩
theorem x_rIntB {R : Int → Prop} {S : Bool → Prop} (q : R i) : (∃ j, [V.int i] = [V.int j] ∧ R j) ∨ ∃ k, [V.int i] = [V.bl k] ∧ S k := .inl ⟨i, rfl, q⟩
theorem x_join {ys : List Str} {R : Str → List Str → Prop} (h : SqL K H p (ys.map V.str)) (hl : (ys.map (·.length)).sum + ys.length * z.length ≤ 16777216) (q : R z ys) :
    ∃ a p', ∃ ys : List Str, V.str z = V.str a ∧ [V.ref p] = [V.ref p'] ∧ (SqL K H p' (ys.map V.str) ∨ SqT K H p' (ys.map V.str)) ∧ (ys.map (·.length)).sum + ys.length * a.length ≤ 16777216 ∧ R a ys := ⟨z, p, ys, rfl, rfl, .inl h, hl, q⟩
end
theorem x_cutE {te : TE} {σ : St} {H : Hp} {Q : VK} (P : V → Hp → Prop) (h1 : ∀ Q' : VK, (∀ v H', P v H' → Q' v H') → te σ H Q') (h2 : ∀ v H', P v H' → Q v H') : te σ H Q := h1 Q h2
theorem x_cutS {t : TS} {D : Ends} {σ : St} {H : Hp} (P : St → Hp → Prop) (h1 : ∀ nx : St → Hp → Prop, (∀ σ' H', P σ' H' → nx σ' H') → t { D with nx := nx } σ H) (h2 : ∀ σ' H', P σ' H' → D.nx σ' H') : t D σ H := h1 D.nx h2
theorem x_iteNT {A B : Prop} (q : B) : if (!true) = true then A else B := q
theorem x_iteNF {A B : Prop} (q : A) : if (!false) = true then A else B := q
theorem hp_sz {n : Nat} (h : n ≤ 1000000) : n ≤ sizeLine := Nat.le_trans h (by decide)
end L2

namespace Sr
open PySem PySem.Spec PyProof.Rows L2
/-! ### the source of draws: a list [s, cells, i] at a, its cells at b -/
def Src (H : Hp) (a b : Addr) : Prop := a ≠ b ∧ ∃ (s i : Int) (cs : List Int), H a = some (.lst [.int s, .ref b, .int i]) ∧ H b = some (.lst (cs.map V.int)) ∧ cs.length ≤ 63
/-- all that is tracked but the source stands as it was -/
def Kp (a b : Addr) (H H' : Hp) : Prop := ∀ p o, p ≠ a → p ≠ b → H p = some o → H' p = some o
theorem Kp.refl {a b : Addr} (H : Hp) : Kp a b H H := fun _ _ _ _ h => h
theorem Kp.trans {a b : Addr} {H H1 H2 : Hp} (x : Kp a b H H1) (y : Kp a b H1 H2) : Kp a b H H2 := fun p o h1 h2 h => y p o h1 h2 (x p o h1 h2 h)
theorem Kp.of {a b : Addr} {H H' : Hp} (x : Same H H') : Kp a b H H' := fun p o _ _ h => x p o h
theorem Kp.new {a b p : Addr} {H : Hp} {o : HO} (h : H p = none) : Kp a b H (upd H p o) := fun q u _ _ e => by
  rw [upd_ne (ne_of_none e h)]
  exact e
theorem Kp.at_a {a b : Addr} {H : Hp} {o : HO} : Kp a b H (upd H a o) := fun q u n _ e => by
  rw [upd_ne n]
  exact e
theorem Kp.at_b {a b : Addr} {H : Hp} {o : HO} : Kp a b H (upd H b o) := fun q u _ n e => by
  rw [upd_ne n]
  exact e
theorem Src.new {a b p : Addr} {H : Hp} {o : HO} (x : Src H a b) (h : H p = none) : Src (upd H p o) a b := by
  obtain ⟨n, s, i, cs, h1, h2, h3⟩ := x
  exact ⟨n, s, i, cs, by rw [upd_ne (ne_of_none h1 h)]; exact h1, by rw [upd_ne (ne_of_none h2 h)]; exact h2, h3⟩
/-- an object that is no list of ints and no list that begins so stands apart -/
theorem same_upd {H : Hp} {p : Addr} {o : HO} (h : H p = none) : Same H (upd H p o) := fun b x e => by
  rw [upd_ne (ne_of_none e h)]
  exact e
theorem Src_same {a b : Addr} {H H' : Hp} (x : Src H a b) (e : Same H H') : Src H' a b := by
  obtain ⟨n, s, i, cs, h1, h2, h3⟩ := x
  exact ⟨n, s, i, cs, e _ _ h1, e _ _ h2, h3⟩
theorem atI_of {α : Type} {xs : List α} {i : Int} {v : α} (h0 : 0 ≤ i) (h : xs[i.toNat]? = some v) : atI xs i = some v := by
  have e : i = ((i.toNat : Nat) : Int) := by omega
  rw [e]
  exact atI_nat h
theorem ixN_of {n : Nat} {i : Int} (h0 : 0 ≤ i) (h : i < n) : ixN n i = some i.toNat := by
  unfold ixN
  rw [if_pos h0, if_pos h]
theorem eqv_ints_nil : ∀ cs : List Int, PyData.eqv (.list (cs.map PyData.int)) (.list []) = cs.isEmpty
  | [] => by decide +kernel
  | c :: cs => by
    show PyData.eqv (.list (PyData.int c :: cs.map PyData.int)) (.list []) = false
    simp [PyData.eqv, PyData.eqvAll]
theorem dp_ints {K : PySem.W.Frag} {H : Hp} : ∀ cs : List Int, DpAll K H (cs.map V.int) (cs.map PyData.int)
  | [] => .nil
  | c :: cs => .cons (.int c) (dp_ints cs)
theorem lay_ints : ∀ cs : List Int, PyData.canLayAll0 (cs.map PyData.int) = true
  | [] => by simp [PyData.canLayAll0]
  | c :: cs => by
    have h := lay_ints cs
    simp [PyData.canLayAll0, PyData.canLay0] at h ⊢
    exact h
theorem depth_ints : ∀ cs : List Int, PyData.depthAll (cs.map PyData.int) ≤ 1
  | [] => by simp [PyData.depthAll]
  | c :: cs => by
    have h := depth_ints cs
    simp [PyData.depthAll, PyData.depth] at h ⊢
    omega
theorem shaped_ints (cs : List Int) : SeqAt.shaped (.list (cs.map PyData.int)) = true := by
  unfold SeqAt.shaped
  rw [Bool.and_eq_true]
  refine ⟨lay_ints cs, decide_eq_true ?_⟩
  have h := depth_ints cs
  simp only [PyData.depth]
  omega
theorem ints_at {cs : List Int} {j : Nat} (h : j < cs.length) : (cs.map V.int)[j]? = some (.int cs[j]) := by
  rw [List.getElem?_map, List.getElem?_eq_getElem h]
  rfl
theorem map_set_int (cs : List Int) (j : Nat) (x : Int) : (cs.map V.int).set j (.int x) = (cs.set j x).map V.int := by
  rw [List.map_set]
end Sr

namespace Sr
open PySem PySem.Spec PyProof.Rows L2
open TL (tl)
/-! ### texts by their codes -/
/-- the text of these codes -/
def S (l : List Nat) : Str := ⟨l.toArray⟩
theorem tl_S (l : List Nat) : tl (S l) = l := rfl
theorem S_tl (z : Str) : S (tl z) = z := TL.mk_tl z
theorem S_inj {l m : List Nat} (h : S l = S m) : l = m := congrArg tl h
theorem len_S (l : List Nat) : (S l).length = l.length := by rw [TL.len_tl, tl_S]
theorem S_app (l m : List Nat) : S l ++ S m = S (l ++ m) := TL.ext_tl (by rw [TL.tl_append, tl_S, tl_S, tl_S])
def sg (c : Nat) : Str := ⟨#[c]⟩
theorem sg_S (c : Nat) : sg c = S [c] := rfl
theorem joinL_nil : ∀ ps : List (List Nat), TL.joinL [] ps = ps.flatten
  | [] => rfl
  | [p] => by simp [TL.joinL]
  | p :: q :: r => by
    show p ++ ([] ++ TL.joinL [] (q :: r)) = _
    rw [joinL_nil (q :: r)]
    simp
theorem join_signs (cs : List Nat) : Txt.join "" (cs.map sg) = S cs := by
  refine TL.ext_tl ?_
  rw [TL.join_eq, TL.tl_join, show tl ("" : Str) = [] from rfl, joinL_nil, tl_S, List.map_map]
  induction cs with
  | nil => rfl
  | cons c cs ih =>
    rw [List.map_cons, List.flatten_cons, ih]
    rfl
theorem signs_len (cs : List Nat) : ((cs.map sg).map (·.length)).sum + (cs.map sg).length * ("" : Str).length = cs.length := by
  rw [show ("" : Str).length = 0 from rfl, Nat.mul_zero, Nat.add_zero]
  induction cs with
  | nil => rfl
  | cons c cs ih =>
    rw [List.map_cons, List.map_cons, List.sum_cons, ih, List.length_cons]
    show 1 + cs.length = _
    omega
theorem spl_len (c : Nat) : ∀ (l acc : List Nat), (TL.spl [c] 0 acc l).length = l.count c + 1
  | [], acc => by simp [TL.spl]
  | d :: r, acc => by
    have e : TL.spl [c] 0 acc (d :: r) = if TL.pre [c] (d :: r) = true then acc :: TL.spl [c] 0 [] r else TL.spl [c] 0 (acc ++ [d]) r := rfl
    rw [e]
    by_cases h : d = c
    · subst h
      rw [if_pos (by simp [TL.pre]), List.length_cons, spl_len d r [], List.count_cons_self]
    · have hp : ¬ TL.pre [c] (d :: r) = true := by simp [TL.pre, h]
      rw [if_neg hp, spl_len c r _, List.count_cons_of_ne h]
theorem parts_len (x : Str) (n : Nat) : ∀ (cuts : List Nat) (a : Nat), (StrLaws.partsFrom x n a cuts).length = cuts.length + 1
  | [], _ => rfl
  | c :: r, a => by
    show (_ :: StrLaws.partsFrom x n (c + n) r).length = _
    rw [List.length_cons, parts_len x n r, List.length_cons]
theorem count_sign (z : Str) (c : Nat) : Txt.count z (sg c) = (((tl z).count c : Nat) : Int) := by
  have hy : tl (sg c) ≠ [] := by
    show [c] ≠ []
    simp
  obtain ⟨f, g, hn⟩ := StrLaws.occ_tight z (sg c) (by show 1 ≤ 1; exact Nat.le_refl _)
  have key := congrArg List.length (TL.parts_spl hy _ 0 f (Nat.zero_le _) g hn)
  rw [List.length_map, parts_len, List.drop_zero, show tl (sg c) = [c] from rfl, spl_len] at key
  show ((Builtin.Str.occurrences z (sg c) 0 z.length (z.length + 1)).length : Int) = _
  omega
/-- the worth of likes -/
def wor (g l : Int) : List Nat → Int
  | [] => 0
  | c :: r => (if c = 61 then g else -l) + wor g l r
theorem wor_app (g l : Int) : ∀ a b, wor g l (a ++ b) = wor g l a + wor g l b
  | [], b => by simp [wor]
  | c :: a, b => by
    show (if c = 61 then g else -l) + wor g l (a ++ b) = (if c = 61 then g else -l) + wor g l a + wor g l b
    rw [wor_app g l a b]
    omega
theorem wor_take (g l : Int) {z : List Nat} {i : Nat} (h : i < z.length) : wor g l (z.take (i + 1)) = wor g l (z.take i) + (if z[i] = 61 then g else -l) := by
  rw [List.take_succ_eq_append_getElem h, wor_app]
  show _ + ((if z[i] = 61 then g else -l) + 0) = _
  omega
/-- likes: a text of 61 and 47 alone -/
def Lk (z : List Nat) : Prop := ∀ c ∈ z, c = 61 ∨ c = 47
theorem wor_count (g l : Int) : ∀ {z : List Nat}, Lk z → g * ((z.count 61 : Nat) : Int) - l * ((z.count 47 : Nat) : Int) = wor g l z
  | [], _ => by simp [wor]
  | c :: r, h => by
    have ih := wor_count g l (z := r) fun d hd => h d (List.mem_cons_of_mem _ hd)
    show _ = (if c = 61 then g else -l) + wor g l r
    rcases h c (List.mem_cons_self ..) with e | e
    · subst e
      rw [List.count_cons_self, List.count_cons_of_ne (by decide), if_pos rfl, ← ih, Int.natCast_add, Int.mul_add]
      simp
      omega
    · subst e
      rw [List.count_cons_self, List.count_cons_of_ne (by decide), if_neg (by decide), ← ih, Int.natCast_add, Int.mul_add]
      simp
      omega
/-- the places of a lane -/
def onl (n : Nat) (d : Int) (p : Nat) : Bool := decide (0 ≤ (p : Int) + d) && decide ((p : Int) + d < (n : Int))
def plc (m n : Nat) (d : Int) : List Nat := (List.range m).filter (onl n d)
def bgn (d : Int) : Nat := (-d).toNat
def lkn (m n : Nat) (d : Int) : Nat := (min (m : Int) ((n : Int) - d) - (bgn d : Int)).toNat
theorem plc_eq (n : Nat) (d : Int) : ∀ m, plc m n d = (List.range (lkn m n d)).map (bgn d + ·)
  | 0 => by
    have h : lkn 0 n d = 0 := by unfold lkn bgn; omega
    rw [h]
    rfl
  | m + 1 => by
    have ih := plc_eq n d m
    unfold plc at ih ⊢
    rw [List.range_succ, List.filter_append, ih]
    by_cases h : onl n d m = true
    · have h' : 0 ≤ (m : Int) + d ∧ (m : Int) + d < n := by
        unfold onl at h
        simpa using h
      have e : lkn (m + 1) n d = lkn m n d + 1 := by unfold lkn bgn; omega
      have e2 : m = bgn d + lkn m n d := by unfold lkn bgn; omega
      rw [e, List.range_succ, List.map_append, List.filter_cons, if_pos h]
      show _ ++ [m] = _ ++ [bgn d + lkn m n d]
      rw [← e2]
    · have h' : ¬ (0 ≤ (m : Int) + d ∧ (m : Int) + d < n) := by
        unfold onl at h
        simpa using h
      have e : lkn (m + 1) n d = lkn m n d := by unfold lkn bgn; omega
      rw [e, List.filter_cons, if_neg h]
      simp
/-- the like at a place -/
def lk1 (o t : List Nat) (d : Int) (p : Nat) : Nat := if o[p]? = t[((p : Int) + d).toNat]? then 61 else 47
def likL (o t : List Nat) (d : Int) : List Nat := (plc o.length t.length d).map (lk1 o t d)
theorem likL_Lk (o t : List Nat) (d : Int) : Lk (likL o t d) := fun c h => by
  obtain ⟨p, _, rfl⟩ := List.mem_map.mp h
  unfold lk1
  split
  · exact .inl rfl
  · exact .inr rfl
theorem plc_len (m n : Nat) (d : Int) : (plc m n d).length = lkn m n d := by
  rw [plc_eq, List.length_map, List.length_range]
theorem likL_len (o t : List Nat) (d : Int) : (likL o t d).length = lkn o.length t.length d := by
  unfold likL
  rw [List.length_map, plc_len]
theorem lkn_le (m n : Nat) (d : Int) : lkn m n d ≤ m := by unfold lkn bgn; omega
theorem likL_le (o t : List Nat) (d : Int) : (likL o t d).length ≤ o.length := by rw [likL_len]; exact lkn_le _ _ _
theorem likL_eq (o t : List Nat) (d : Int) : likL o t d = (List.range (lkn o.length t.length d)).map fun i => lk1 o t d (bgn d + i) := by
  unfold likL
  rw [plc_eq, List.map_map]
  rfl
/-- the drawn letters -/
def letL (t n : Nat) : List Nat := (List.range n).map fun k => 97 + (t + 7 * k) % 26
theorem letL_len (t n : Nat) : (letL t n).length = n := by unfold letL; rw [List.length_map, List.length_range]
theorem pv_step {H2 H : Hp} {D : Addr} {f : Nat → V} {i : Nat} {y : V} (hn : H2 D = none) (sm : Same H2 H) (hD : H D = some (.lst ((List.range i).map f))) (hi : i ≤ 1000000) (hy : y = f i) :
    ∃ acc, H D = some (.lst acc) ∧ acc.length < sizeLine ∧ (Same H2 (upd H D (.lst (acc ++ [y]))) ∧ upd H D (.lst (acc ++ [y])) D = some (.lst ((List.range (i + 1)).map f))) := by
  refine ⟨_, hD, ?_, fun b o e => ?_, ?_⟩
  · rw [List.length_map, List.length_range]
    exact Nat.lt_of_le_of_lt hi (by decide)
  · rw [upd_ne (ne_of_none e hn)]
    exact sm b o e
  · rw [upd_same, hy, List.range_succ, List.map_append]
    rfl
theorem lst_map_signs (cs : List Nat) : (cs.map sg).map V.str = cs.map fun c => V.str (sg c) := by rw [List.map_map]; rfl
/-- the end of ''.join of signs -/
theorem join_end {K : PySem.W.Frag} {H : Hp} {p : Addr} {cs : List Nat} {Q : VK} (h : H p = some (.lst (cs.map fun c => V.str (sg c)))) (hl : cs.length ≤ 1000000) (q : Q (.str (S cs)) H) :
    ∃ a p', ∃ ys : List Str, V.str (Str.ofString "") = V.str a ∧ [V.ref p] = [V.ref p'] ∧ (SqL K H p' (ys.map V.str) ∨ SqT K H p' (ys.map V.str)) ∧ (ys.map (·.length)).sum + ys.length * a.length ≤ 16777216 ∧ Q (V.str (Txt.join a ys)) H := by
  refine ⟨_, p, cs.map sg, rfl, rfl, .inl (SqL.of ?_), ?_, ?_⟩
  · rw [lst_map_signs]
    exact h
  · have e := signs_len cs
    show ((cs.map sg).map (·.length)).sum + (cs.map sg).length * ("" : Str).length ≤ 16777216
    rw [e]
    omega
  · have e := join_signs cs
    show Q (V.str (Txt.join "" (cs.map sg))) H
    rw [e]
    exact q
/-- what a comprehension of drawn signs keeps -/
def Dr (a b : Addr) (H0 : Hp) (D : Addr) (ok : Nat → Prop) (i : Nat) (H : Hp) : Prop := ∃ cs : List Nat, cs.length = i ∧ (∀ c ∈ cs, ok c) ∧ Src H a b ∧ Kp a b H0 H ∧ H D = some (.lst (cs.map fun c => V.str (sg c)))
theorem Dr.start {a b : Addr} {H0 : Hp} {D : Addr} {ok : Nat → Prop} (hs : Src H0 a b) (hn : H0 D = none) : Dr a b H0 D ok 0 (upd H0 D (.lst [])) :=
  ⟨[], rfl, (fun c h => nomatch h), hs.new hn, Kp.new hn, upd_same⟩
theorem Src.ne_a {a b D : Addr} {H : Hp} (h : Src H a b) (hn : H D = none) : D ≠ a := by
  obtain ⟨_, _, _, _, h1, _⟩ := h
  exact (ne_of_none h1 hn).symm
theorem Src.ne_b {a b D : Addr} {H : Hp} (h : Src H a b) (hn : H D = none) : D ≠ b := by
  obtain ⟨_, _, _, _, _, h1, _⟩ := h
  exact (ne_of_none h1 hn).symm
theorem Src.upd {a b D : Addr} {H : Hp} {o : HO} (h : Src H a b) (na : D ≠ a) (nb : D ≠ b) : Src (upd H D o) a b := by
  obtain ⟨n, s, i, cs, h1, h2, h3⟩ := h
  exact ⟨n, s, i, cs, by rw [upd_ne na.symm]; exact h1, by rw [upd_ne nb.symm]; exact h2, h3⟩
/-- a turn: the element drew in between (H to H'), then its sign is appended -/
theorem Dr.step {a b : Addr} {H0 H H' : Hp} {D : Addr} {ok : Nat → Prop} {i c : Nat} (hn : H0 D = none) (hs0 : Src H0 a b) (h : Dr a b H0 D ok i H) (hi : i ≤ 1000000) (hs : Src H' a b) (k : Kp a b H H') (hc : ok c) :
    ∃ acc, H' D = some (.lst acc) ∧ acc.length < sizeLine ∧ Dr a b H0 D ok (i + 1) (L2.upd H' D (.lst (acc ++ [V.str (sg c)]))) := by
  obtain ⟨cs, hl, hok, _, k0, hD⟩ := h
  have na := hs0.ne_a hn
  have nb := hs0.ne_b hn
  refine ⟨_, k D _ na nb hD, ?_, cs ++ [c], ?_, ?_, hs.upd na nb, fun p o h1 h2 e => ?_, ?_⟩
  · rw [List.length_map, hl]
    exact Nat.lt_of_le_of_lt hi (by decide)
  · rw [List.length_append, hl]
    rfl
  · intro d hd
    rcases List.mem_append.mp hd with h1 | h1
    · exact hok d h1
    · rw [List.mem_singleton.mp h1]
      exact hc
  · rw [upd_ne (ne_of_none e hn)]
    exact k p o h1 h2 (k0 p o h1 h2 e)
  · rw [upd_same, List.map_append]
    rfl
end Sr
namespace Sr
open PySem PySem.Spec PyProof.Rows L2
/-! ### data that the law compares -/
inductive Gd : PyData → Prop where
  | int (i : Int) : Gd (.int i)
  | str (x : Str) : Gd (.str x)
  | bl (b : Bool) : Gd (.bool b)
  | lst (ds : List PyData) (hl : ds.length ≤ 100000) (h : ∀ d ∈ ds, Gd d) : Gd (.list ds)
  | tup (ds : List PyData) (hl : ds.length ≤ 100000) (h : ∀ d ∈ ds, Gd d) : Gd (.tuple ds)
theorem SqT_same {K : PySem.W.Frag} {H H' : Hp} {a : Addr} {xs : List V} (e : Same H H') (h : SqT K H a xs) : SqT K H' a xs := by
  rcases h with (h | ⟨o, h⟩) | h
  · exact .inl (.inl (e _ _ h))
  · exact .inl (.inr ⟨o, e _ _ h⟩)
  · exact .inr h
section
variable {K : PySem.W.Frag} {H H' : Hp}
mutual
theorem Dp_same (e : Same H H') : ∀ (d : PyData) (v : V), Dp K H v d → Dp K H' v d
  | .none, _, h => by cases h; exact .non
  | .bool b, _, h => by cases h; exact .bl b
  | .int i, _, h => by cases h; exact .int i
  | .str x, _, h => by cases h; exact .str x
  | .list ds, _, h => by
    cases h with
    | lst hs ha => exact .lst (e.seq hs) (DpAll_same e ds _ ha)
  | .tuple ds, _, h => by
    cases h with
    | tup hs ha => exact .tup (SqT_same e hs) (DpAll_same e ds _ ha)
  | .dict _, _, h => by cases h
theorem DpAll_same (e : Same H H') : ∀ (ds : List PyData) (vs : List V), DpAll K H vs ds → DpAll K H' vs ds
  | [], _, h => by cases h; exact .nil
  | d :: ds, _, h => by
    cases h with
    | cons h1 h2 => exact .cons (Dp_same e d _ h1) (DpAll_same e ds _ h2)
end
theorem DpAll_len : ∀ {ds : List PyData} {vs : List V}, DpAll K H vs ds → vs.length = ds.length
  | [], _, h => by cases h; rfl
  | d :: ds, _, h => by
    cases h with
    | cons h1 h2 => rw [List.length_cons, List.length_cons, DpAll_len h2]
theorem DpAll_get : ∀ {ds : List PyData} {vs : List V} (i : Nat), DpAll K H vs ds → i < ds.length → ∃ v d, vs[i]? = some v ∧ ds[i]? = some d ∧ Dp K H v d
  | [], _, i, h, hi => by simp at hi
  | d :: ds, _, 0, h, hi => by
    cases h with
    | cons h1 h2 => exact ⟨_, _, rfl, rfl, h1⟩
  | d :: ds, _, i + 1, h, hi => by
    cases h with
    | cons h1 h2 =>
      obtain ⟨v, d', e1, e2, h3⟩ := DpAll_get i h2 (by simpa using hi)
      exact ⟨v, d', e1, e2, h3⟩
def tname : PyData → String
  | .none => "NoneType"
  | .bool _ => "bool"
  | .int _ => "int"
  | .str _ => "str"
  | .list _ => "list"
  | .tuple _ => "tuple"
  | .dict _ => "dict"
theorem dp_ty {v : V} {d : PyData} (h : Dp K H v d) : TyX K H v (.type (tname d)) := by
  cases h with
  | non => exact .base .non
  | bl b => exact .base (.bl b)
  | int i => exact .base (.int i)
  | str x => exact .base (.str x)
  | lst hs _ =>
    rcases hs with (h | ⟨o, h⟩) | ⟨o, its, n, h1, h2, _⟩
    · exact .base (.lst h)
    · exact .base (.frz h)
    · exact .kList h1 h2
  | tup hs _ =>
    rcases hs with (h | ⟨o, h⟩) | ⟨o, its, n, h1, h2, _⟩
    · exact .base (.tup h)
    · exact .fTuple h
    · exact .kTuple h1 h2
theorem kit_lt {tn : String} {b1 b2 : Bool} (h1 : PySem.W.kitOne K (.type tn) (.type "list") = some b1) (h2 : PySem.W.kitOne K (.type tn) (.type "tuple") = some b2) :
    PySem.W.kitAny K (.type tn) [.type "list", .type "tuple"] = some (b1 || b2) :=
  kitAny_cons h1 (fun e => kitAny_cons h2 (fun e2 => by rw [e, e2]; exact kitAny_nil) fun e2 => by rw [e2, Bool.or_true]) fun e => by rw [e, Bool.true_or]
/-- a def that is never called where its promise asks the impossible -/
theorem fn_never {P : Program} {w : World} {mg : Str → Option Value} {base : Heap} {CX : CXT} {k : Nat} {f : Addr} {fd : FuncData} {ps : List Str} {sp : Sp} (h : ∀ vs H Q E, ¬ sp vs H Q E) : FnOk P w K mg base CX k f fd ps sp :=
  ⟨fun vs H Q E z => (h vs H Q E z).elim, fun _ _ _ _ _ _ _ _ _ _ _ _ _ z => (h _ _ _ _ z).elim⟩
theorem x_ixQ {p : Addr} {xs : List V} {i : Int} {v : V} {Q : VK} (h : SqL K H p xs ∨ SqT K H p xs) (e : atI xs i = some v) (q : Q v H) : rIx K (.ref p) (.int i) H Q := by
  rcases h with h | h
  · exact .inl ⟨p, xs, i, v, rfl, rfl, h, e, q⟩
  · exact .inr (.inl ⟨p, xs, i, v, rfl, rfl, h, e, q⟩)
theorem x_isi {x : V} {n tn : String} {b : Bool} {Q : VK} (ht : TyX K H x (.type tn)) (k : PySem.W.kitOne K (.type tn) (.type n) = some b) (q : Q (.bl b) H) : rIsi K [x, .ty n] H Q :=
  ⟨x, .ty n, _, _, b, rfl, .ty n, ht, k, q⟩
theorem x_isiLT {x : V} {tn : String} {p : Addr} {b : Bool} {Q : VK} (hp : H p = some (.tup [.ty "list", .ty "tuple"])) (ht : TyX K H x (.type tn)) (k : PySem.W.kitAny K (.type tn) [.type "list", .type "tuple"] = some b) (q : Q (.bl b) H) : rIsiT K [x, .ref p] H Q :=
  ⟨x, p, _, _, _, b, rfl, hp, .cons (.ty _) (.cons (.ty _) .nil), ht, k, q⟩
theorem TyX_same (e : Same H H') {v : V} {d : PyData} (h : Dp K H v d) : TyX K H' v (.type (tname d)) := dp_ty (Dp_same e d v h)
theorem depth_mem : ∀ {ds : List PyData} {d : PyData}, d ∈ ds → d.depth ≤ PyData.depthAll ds
  | x :: xs, d, h => by
    simp only [PyData.depthAll]
    rcases List.mem_cons.mp h with e | e
    · subst e
      exact Nat.le_max_left _ _
    · exact Nat.le_trans (depth_mem e) (Nat.le_max_right _ _)
end
end Sr
namespace Sr
open PySem PySem.Spec PyProof.Rows L2
theorem cutS_take (z : List Nat) (k : Nat) : cutS (S z) none (some (k : Int)) = S (z.take k) := by
  unfold cutS
  have e0 : HT.sIx (S z).length 0 none = 0 := rfl
  have e1 : HT.sIx (S z).length (S z).length (some (k : Int)) = min k (S z).length := HT.sIx_nat _ _ _
  rw [e0, e1, List.drop_zero, Nat.sub_zero, len_S]
  show S (z.take (min k z.length)) = _
  congr 1
  by_cases h : k ≤ z.length
  · rw [Nat.min_eq_left h]
  · rw [Nat.min_eq_right (by omega), List.take_of_length_le (Nat.le_refl _), List.take_of_length_le (by omega)]
theorem cutS_drop (z : List Nat) (k : Nat) : cutS (S z) (some (k : Int)) none = S (z.drop k) := by
  unfold cutS
  have e0 : HT.sIx (S z).length 0 (some (k : Int)) = min k (S z).length := HT.sIx_nat _ _ _
  have e1 : HT.sIx (S z).length (S z).length none = (S z).length := rfl
  rw [e0, e1, len_S]
  show S ((z.drop (min k z.length)).take (z.length - min k z.length)) = _
  congr 1
  by_cases h : k ≤ z.length
  · rw [Nat.min_eq_left h]
    exact List.take_of_length_le (by rw [List.length_drop]; exact Nat.le_refl _)
  · rw [Nat.min_eq_right (by omega), List.drop_eq_nil_of_le (Nat.le_refl _), List.drop_eq_nil_of_le (by omega)]
    simp
theorem cutS_cut (z : List Nat) (i j : Nat) (h : j ≤ z.length) : cutS (S z) (some (i : Int)) (some (j : Int)) = S ((z.drop i).take (j - i)) := by
  unfold cutS
  have e0 : HT.sIx (S z).length 0 (some (i : Int)) = min i (S z).length := HT.sIx_nat _ _ _
  have e1 : HT.sIx (S z).length (S z).length (some (j : Int)) = min j (S z).length := HT.sIx_nat _ _ _
  rw [e0, e1, len_S, Nat.min_eq_left h]
  show S ((z.drop (min i z.length)).take (j - min i z.length)) = _
  congr 1
  by_cases h2 : i ≤ z.length
  · rw [Nat.min_eq_left h2]
  · rw [Nat.min_eq_right (by omega), List.drop_eq_nil_of_le (Nat.le_refl _), List.drop_eq_nil_of_le (by omega)]
    simp
end Sr
namespace Sr
open PySem PySem.Spec PyProof.Rows L2
theorem seq_view {K : PySem.W.Frag} {H : Hp} {x y : V} {d : PyData} (hx : Dp K H x d) (hy : Dp K H y d) (g : Gd d) :
    (∃ i, x = .int i ∧ y = .int i ∧ tname d = "int") ∨ (∃ z, x = .str z ∧ y = .str z ∧ tname d = "str") ∨ (∃ b, x = .bl b ∧ y = .bl b ∧ tname d = "bool") ∨
    ∃ (ds : List PyData) (px py : Addr) (xs ys : List V) (b1 b2 : Bool), x = .ref px ∧ y = .ref py ∧ (SqL K H px xs ∨ SqT K H px xs) ∧ (SqL K H py ys ∨ SqT K H py ys) ∧ DpAll K H xs ds ∧ DpAll K H ys ds ∧ ds.length ≤ 100000 ∧ (∀ d ∈ ds, Gd d) ∧
      d.depth = PyData.depthAll ds + 1 ∧ PySem.W.kitOne K (.type (tname d)) (.type "list") = some b1 ∧ PySem.W.kitOne K (.type (tname d)) (.type "tuple") = some b2 ∧ (b1 || b2) = true := by
  cases g with
  | int i =>
    cases hx
    cases hy
    exact .inl ⟨i, rfl, rfl, rfl⟩
  | str z =>
    cases hx
    cases hy
    exact .inr (.inl ⟨z, rfl, rfl, rfl⟩)
  | bl b =>
    cases hx
    cases hy
    exact .inr (.inr (.inl ⟨b, rfl, rfl, rfl⟩))
  | lst ds hl h =>
    cases hx with
    | lst h1 h2 =>
      cases hy with
      | lst h3 h4 => exact .inr (.inr (.inr ⟨ds, _, _, _, _, true, false, rfl, rfl, .inl h1, .inl h3, h2, h4, hl, h, by simp only [PyData.depth], kit_ty (a := "list") (by decide +kernel), kit_ty (a := "list") (by decide +kernel), rfl⟩))
  | tup ds hl h =>
    cases hx with
    | tup h1 h2 =>
      cases hy with
      | tup h3 h4 => exact .inr (.inr (.inr ⟨ds, _, _, _, _, false, true, rfl, rfl, .inr h1, .inr h3, h2, h4, hl, h, by simp only [PyData.depth], kit_ty (a := "tuple") (by decide +kernel), kit_ty (a := "tuple") (by decide +kernel), rfl⟩))
theorem Sq_same {K : PySem.W.Frag} {H H' : Hp} {a : Addr} {xs : List V} (e : Same H H') (h : SqL K H a xs ∨ SqT K H a xs) : SqL K H' a xs ∨ SqT K H' a xs := h.elim (fun h => .inl (e.seq h)) fun h => .inr (SqT_same e h)
end Sr

namespace Sr
open PySem PySem.Spec PyProof.Rows L2
/-! ### the text -/
def topS (i : Nat) : Stmt := PySem.Challenge.pw_seedreach_k01_likes_and_worths.main.body.getD i (.Pass ⟨0, 0, 0, 0⟩)
abbrev slane_begin : Stmt := topS 3
abbrev nlane_begin : List Str := ["shift"]
theorem sclane_begin : FnScope nlane_begin ["shift"] (defScope slane_begin) := ⟨rfl, rfl, rfl, by decide +kernel, rfl, by decide +kernel, by decide +kernel⟩
abbrev slikes_of : Stmt := topS 4
abbrev nlikes_of : List Str := ["one", "other", "shift", "begin", "end", "place"]
theorem sclikes_of : FnScope nlikes_of ["one", "other", "shift"] (defScope slikes_of) := ⟨rfl, rfl, rfl, by decide +kernel, rfl, by decide +kernel, by decide +kernel⟩
abbrev sworth_of : Stmt := topS 5
abbrev nworth_of : List Str := ["likes", "scale", "gain", "loss"]
theorem scworth_of : FnScope nworth_of ["likes", "scale"] (defScope sworth_of) := ⟨rfl, rfl, rfl, by decide +kernel, rfl, by decide +kernel, by decide +kernel⟩
abbrev s_law_next : Stmt := topS 7
abbrev n_law_next : List Str := ["_law_h", "_law_many", "_law_at", "_law_cell"]
theorem sc_law_next : FnScope n_law_next ["_law_h", "_law_many"] (defScope s_law_next) := ⟨rfl, rfl, rfl, by decide +kernel, rfl, by decide +kernel, by decide +kernel⟩
abbrev s_law_letters : Stmt := topS 8
abbrev n_law_letters : List Str := ["_law_h", "_law_turn", "_law_k"]
theorem sc_law_letters : FnScope n_law_letters ["_law_h"] (defScope s_law_letters) := ⟨rfl, rfl, rfl, by decide +kernel, rfl, by decide +kernel, by decide +kernel⟩
abbrev s_law_row : Stmt := topS 9
abbrev n_law_row : List Str := ["_law_h", "_law_letters_here", "_law_most", "_law_k"]
theorem sc_law_row : FnScope n_law_row ["_law_h", "_law_letters_here", "_law_most"] (defScope s_law_row) := ⟨rfl, rfl, rfl, by decide +kernel, rfl, by decide +kernel, by decide +kernel⟩
abbrev s_law_near : Stmt := topS 10
abbrev n_law_near : List Str := ["_law_h", "_law_row_here", "_law_letters_here", "_law_found", "_law_keep", "_law_sign", "_law_way"]
theorem sc_law_near : FnScope n_law_near ["_law_h", "_law_row_here", "_law_letters_here"] (defScope s_law_near) := ⟨rfl, rfl, rfl, by decide +kernel, rfl, by decide +kernel, by decide +kernel⟩
abbrev s_law_scale : Stmt := topS 11
abbrev n_law_scale : List Str := ["_law_h"]
theorem sc_law_scale : FnScope n_law_scale ["_law_h"] (defScope s_law_scale) := ⟨rfl, rfl, rfl, by decide +kernel, rfl, by decide +kernel, by decide +kernel⟩
abbrev s_law_worth : Stmt := topS 12
abbrev n_law_worth : List Str := ["_law_likes", "_law_scale_here", "_law_found", "_law_sign"]
theorem sc_law_worth : FnScope n_law_worth ["_law_likes", "_law_scale_here"] (defScope s_law_worth) := ⟨rfl, rfl, rfl, by decide +kernel, rfl, by decide +kernel, by decide +kernel⟩
abbrev s_law_lane : Stmt := topS 13
abbrev n_law_lane : List Str := ["_law_one", "_law_other", "_law_shift", "_law_places", "_law_likes", "_law_p"]
theorem sc_law_lane : FnScope n_law_lane ["_law_one", "_law_other", "_law_shift"] (defScope s_law_lane) := ⟨rfl, rfl, rfl, by decide +kernel, rfl, by decide +kernel, by decide +kernel⟩
abbrev s_law_same : Stmt := topS 14
abbrev n_law_same : List Str := ["_law_found", "_law_due", "_law_k"]
theorem sc_law_same : FnScope n_law_same ["_law_found", "_law_due"] (defScope s_law_same) := ⟨rfl, rfl, rfl, by decide +kernel, rfl, by decide +kernel, by decide +kernel⟩
abbrev slaw : Stmt := topS 15
abbrev nlaw : List Str := ["_law_script", "_law_h", "_law_letters_here", "_law_scale_here", "_law_one", "_law_other", "_law_turn", "_law_shift", "_law_likes", "_law_ahead", "_law_at"]
theorem sclaw : FnScope nlaw ["_law_script"] (defScope slaw) := ⟨rfl, rfl, rfl, by decide +kernel, rfl, by decide +kernel, by decide +kernel⟩
structure Dn (P : Program) (w : World) (K : PySem.W.Frag) (mg : Str → Option Value) (base : Heap) (x : Str) (k : Nat) (ps : List Str) (sp : Sp) (f : Addr) (fd : FuncData) : Prop where
  ok : FnOk P w K mg base CX0 k f fd ps sp
  g : mg x = some (.ref f)
  kp : PySem.W.keepIn K (.ref f) = true
  b : Binds K fd ps []
structure Bl (mg : Str → Option Value) : Prop where
  m_max : mg "max" = none
  m_min : mg "min" = none
  m_len : mg "len" = none
  m_range : mg "range" = none
  m_int : mg "int" = none
  m_isinstance : mg "isinstance" = none
  m_str : mg "str" = none
  m_list : mg "list" = none
  m_tuple : mg "tuple" = none
  m_bool : mg "bool" = none
structure Cs (mg : Str → Option Value) (uLIKE uUNLIKE : Value) : Prop where
  c_LIKE : RelV (.str "=") uLIKE ∧ mg "LIKE" = some uLIKE
  c_UNLIKE : RelV (.str "/") uUNLIKE ∧ mg "UNLIKE" = some uUNLIKE
def splane_begin (K : PySem.W.Frag) : Sp := fun vs H Q _ => ∃ (d : Int), vs = [.int d] ∧ Q (.int (bgn d : Nat)) H
def splikes_of (K : PySem.W.Frag) : Sp := fun vs H Q _ => ∃ (o t : List Nat) (d : Int), vs = [.str (S o), .str (S t), .int d] ∧ o.length ≤ 1000 ∧ t.length ≤ 1000 ∧ -100000 ≤ d ∧ d ≤ 100000 ∧ ∀ H', Same H H' → Q (.str (S (likL o t d))) H'
def spworth_of (K : PySem.W.Frag) : Sp := fun vs H Q _ => ∃ (z : List Nat) (p : Addr) (g l : Int), vs = [.str (S z), .ref p] ∧ SqT K H p [.int g, .int l] ∧ Lk z ∧ 0 ≤ g ∧ g ≤ 1000 ∧ 0 ≤ l ∧ l ≤ 1000 ∧ Q (.int (wor g l z)) H
def sp_law_next (K : PySem.W.Frag) : Sp := fun vs H Q _ => ∃ (a b : Addr) (m : Int), vs = [.ref a, .int m] ∧ Src H a b ∧ 0 < m ∧ m < 1000000 ∧ ∀ (r : Int) (H' : Hp), 0 ≤ r → r < m → Src H' a b → Kp a b H H' → Q (.int r) H'
def sp_law_letters (K : PySem.W.Frag) : Sp := fun vs H Q _ => ∃ (a b : Addr), vs = [.ref a] ∧ Src H a b ∧ ∀ (t n : Nat) (H' : Hp), t < 26 → 2 ≤ n → n ≤ 6 → Src H' a b → Kp a b H H' → Q (.str (S (letL t n))) H'
def sp_law_row (K : PySem.W.Frag) : Sp := fun vs H Q _ => ∃ (a b : Addr) (l : List Nat) (m : Int), vs = [.ref a, .str (S l), .int m] ∧ Src H a b ∧ 0 < l.length ∧ l.length ≤ 1000 ∧ 0 ≤ m ∧ m ≤ 1000 ∧ ∀ (z : List Nat) (H' : Hp), (z.length : Int) ≤ m → (∀ c ∈ z, c ∈ l) → Src H' a b → Kp a b H H' → Q (.str (S z)) H'
def sp_law_near (K : PySem.W.Frag) : Sp := fun vs H Q _ => ∃ (a b : Addr) (r l : List Nat), vs = [.ref a, .str (S r), .str (S l)] ∧ Src H a b ∧ 0 < l.length ∧ l.length ≤ 1000 ∧ r.length ≤ 1000 ∧ (∀ c ∈ r, c ∈ l) ∧ ∀ (z : List Nat) (H' : Hp), z.length ≤ 60 → (∀ c ∈ z, c ∈ l) → Src H' a b → Kp a b H H' → Q (.str (S z)) H'
def sp_law_scale (K : PySem.W.Frag) : Sp := fun vs H Q _ => ∃ (a b : Addr), vs = [.ref a] ∧ Src H a b ∧ ∀ (g l : Int) (p : Addr) (H' : Hp), 1 ≤ g → g ≤ 9 → 1 ≤ l → l ≤ 9 → H' p = some (.tup [.int g, .int l]) → p ≠ a → p ≠ b → Src H' a b → Kp a b H H' → Q (.ref p) H'
def sp_law_worth (K : PySem.W.Frag) : Sp := fun vs H Q _ => ∃ (z : List Nat) (p : Addr) (g l : Int), vs = [.str (S z), .ref p] ∧ SqT K H p [.int g, .int l] ∧ Q (.int (wor g l z)) H
def sp_law_lane (K : PySem.W.Frag) : Sp := fun vs H Q _ => ∃ (o t : List Nat) (d : Int), vs = [.str (S o), .str (S t), .int d] ∧ o.length ≤ 1000 ∧ t.length ≤ 1000 ∧ ∀ (p : Addr) (H' : Hp), Same H H' → H' p = some (.tup [.str (S (likL o t d)), .int (((plc o.length t.length d)[0]?.getD 0 : Nat) : Int)]) → Q (.ref p) H'
def sp_sameN (n : Nat) (K : PySem.W.Frag) : Sp := fun vs H Q _ => ∃ (x y : V) (d : PyData), vs = [x, y] ∧ Dp K H x d ∧ Dp K H y d ∧ Gd d ∧ d.depth + 1 ≤ n ∧ ∀ H', Same H H' → Q (.bl true) H'
def sp_law_same (K : PySem.W.Frag) : Sp := sp_sameN 12 K
def splaw (K : PySem.W.Frag) : Sp := fun vs H Q _ => ∃ (a : Addr) (ns : List Int), vs = [.ref a] ∧ SqL K H a (ns.map V.int) ∧ ns.length ≤ 63 ∧ ∀ H', Q (.bl true) H'
end Sr
local macro_rules | `(tactic| walk_at "hp") => `(tactic| first | assumption | exact L2.upd_same | exact (L2.upd_ne (by assumption)).trans (by walk_at "hp") | exact (L2.upd_ne (Ne.symm (by assumption))).trans (by walk_at "hp") | exact (L2.upd_ne (L2.ne_of_none (by assumption) (by assumption))).trans (by walk_at "hp"))
local macro_rules | `(tactic| walk_at "sql") => `(tactic| first | assumption | exact L2.SqL.of (by walk_at "hp"))
local macro_rules | `(tactic| walk_at "sqt") => `(tactic| first | assumption | exact L2.SqT.of (by walk_at "hp"))
local macro_rules | `(tactic| walk_at "vc01") => `(tactic| first
  | (with_reducible refine L2.x_seq ?_)
  | (with_reducible refine L2.x_asg ?_)
  | (with_reducible refine L2.x_name ?_)
  | (with_reducible refine L2.x_op ?_)
  | ((with_reducible (refine L2.x_var (v := ?v) ?hv ?_)); case hv => rfl)
  | (with_reducible refine L2.x_c ?_)
  | (with_reducible refine L2.x_rI0 ?_)
  | ((with_reducible (refine L2.x_rI ?hrI ?_)); case hrI => first | exact ⟨by omega, by omega⟩ | exact .inr ⟨by omega, by omega⟩ | exact .inl ⟨by omega, by omega⟩ | (show (0 : Int) < _; omega) | exact ⟨by omega, by omega, by omega⟩ | exact ⟨by decide, by decide, by decide⟩)
  | (with_reducible refine L2.x_rU ?_)
  | (with_reducible refine L2.x_un ?_)
  | ((with_reducible (refine L2.x_rEq ?hs ?_)); case hs => rfl)
  | ((with_reducible (refine L2.x_rNe ?hs ?_)); case hs => rfl)
  | (with_reducible refine L2.x_test ?_)
  | (with_reducible refine L2.x_b ?_)
  | (with_reducible refine L2.x_bl ?_)
  | (with_reducible refine L2.x_and ?_)
  | (with_reducible refine L2.x_or ?_)
  | (with_reducible refine L2.x_not ?_)
  | (with_reducible refine L2.x_notV ?_)
  | (with_reducible refine L2.x_andV ?_)
  | (with_reducible refine L2.x_orV ?_)
  | (with_reducible refine L2.x_cons ?_)
  | (with_reducible refine L2.x_nil ?_)
  | (with_reducible refine L2.x_tup ?_)
  | (with_reducible refine L2.x_lst ?_)
  | (with_reducible refine L2.x_cb ?_)
  | (with_reducible refine L2.x_call ?_)
  | (with_reducible refine L2.x_chain ?_)
  | (with_reducible refine L2.x_next ?_)
  | (with_reducible refine L2.x_drop ?_)
  | (with_reducible refine L2.x_ret ?_)
  | (with_reducible refine L2.x_gCons ?_)
  | (with_reducible refine L2.x_gNil ?_)
  | (with_reducible refine L2.x_gSub ?_)
  | (with_reducible refine L2.x_bm ?_)
  | (with_reducible refine L2.x_m1 ?_)
  | (with_reducible refine L2.x_m1s ?_)
  | (with_reducible refine L2.x_sl ?_)
  | (with_reducible refine L2.x_noPart ?_)
  | (with_reducible refine L2.x_part ?_)
  | (with_reducible refine L2.x_parti ?_)
  | (with_reducible refine L2.x_rng1 ?_)
  | (with_reducible refine L2.x_rng2 ?_)
  | (with_reducible refine L2.x_lcR ?_)
  | (with_reducible refine L2.x_yes ?_)
  | (with_reducible refine L2.x_iList ?_)
  | (with_reducible refine L2.x_iStr ?_)
  | (with_reducible refine L2.x_iStri ?_)
  | (with_reducible refine L2.x_for ?_)
  | (with_reducible refine L2.x_two ?_)
  | (with_reducible refine L2.iteT ?_)
  | (with_reducible refine L2.iteF ?_)
  | (with_reducible refine L2.x_iteNT ?_)
  | (with_reducible refine L2.x_iteNF ?_)
  | (with_reducible refine L2.x_s1 ?_)
  | (with_reducible refine L2.x_rIntB ?_)
  | ((with_reducible (refine L2.x_addS ?h1 ?_)); (case h1 => first | assumption | exact L2.hp_sz (by omega)))
  | (with_reducible refine L2.x_intB ?_)
  | ((with_reducible (refine L2.x_rng1i ?h1 ?h2 ?_)); (case h1 => omega); (case h2 => omega))
  | ((with_reducible (refine L2.x_rng2i ?h1 ?_)); (case h1 => exact ⟨by omega, by omega, by omega, by omega⟩))
  | ((with_reducible (refine L2.x_lenS ?h1 ?_)); (case h1 => first | assumption | exact L2.hp_sz (by omega)))
  | ((with_reducible (refine L2.x_lenL (ys := ?ys) ?h1 ?_)); (case h1 => first | assumption | exact .inl (by walk_at "sql") | exact .inr (by walk_at "sqt")))
  | ((with_reducible (refine L2.x_setL (xs := ?xs) (k := ?k) ?h1 ?h2 ?_)); (case h1 => walk_at "hp"); (case h2 => first | assumption | rfl | exact L2.atI_nat (j := 0) rfl))
  | ((with_reducible (refine L2.x_ixL (xs := ?xs) (v := ?v) ?h1 ?h2 ?_)); (case h1 => walk_at "sql"); (case h2 => first | assumption | rfl | exact L2.atI_nat (j := 0) rfl))
  | ((with_reducible (refine L2.x_ixT (xs := ?xs) (v := ?v) ?h1 ?h2 ?_)); (case h1 => walk_at "sqt"); (case h2 => first | assumption | rfl | exact L2.atI_nat (j := 0) rfl))
  | ((with_reducible (refine L2.x_gTup (xs := ?xs) ?h1 ?h2 ?_)); (case h1 => walk_at "sqt"); (case h2 => rfl)))
local macro_rules | `(tactic| walk_at "vc1") => `(tactic| first | (walk_at "vc01") | (with_reducible refine L2.x_ifE ?_) | (with_reducible refine L2.x_ifS ?_))
local macro_rules | `(tactic| walk_at "vc0") => `(tactic| repeat (walk_at "vc01"))
local macro_rules | `(tactic| walk_at "vc") => `(tactic| repeat (walk_at "vc1"))
namespace Sr
open PySem PySem.Spec PyProof.Rows L2
section
variable {P : Program} {w : World} {K : PySem.W.Frag} {mg : Str → Option Value} {base : Heap}
theorem oklane_begin {f : Addr} {fd : FuncData} (F : Fun K "lane_begin" "lane_begin" slane_begin f fd) (B : Bl mg) : FnOk P w K mg base CX0 1 f fd ["shift"] (splane_begin K) := by
  refine F.ok sclane_begin (fun vs H Q E h => ?_) (fun cdv A outer s H vs Q E hr h => ?_)
  · first
      | (obtain ⟨_, rfl, _⟩ := h; rfl)
      | (obtain ⟨_, _, rfl, _⟩ := h; rfl)
      | (obtain ⟨_, _, _, rfl, _⟩ := h; rfl)
      | (obtain ⟨_, _, _, _, rfl, _⟩ := h; rfl)
      | (obtain ⟨_, _, _, _, _, rfl, _⟩ := h; rfl)
      | (obtain ⟨_, _, _, _, _, _, rfl, _⟩ := h; rfl)
      | (obtain ⟨_, _, _, _, _, _, _, rfl, _⟩ := h; rfl)
      | (obtain ⟨_, _, _, _, _, _, _, _, rfl, _⟩ := h; rfl)
      | (obtain ⟨_, _, _, _, _, _, _, _, _, rfl, _⟩ := h; rfl)
      | (obtain ⟨_, _, _, _, _, _, _, _, _, _, rfl, _⟩ := h; rfl)
      | (obtain ⟨_, _, _, _, _, _, _, _, _, _, _, rfl, _⟩ := h; rfl)
  · obtain ⟨d, rfl, q⟩ := h
    refine ⟨_, 
  (pss_one (ps_ret (pe_callB (call_max2 rfl) (by rfl) B.m_max (by decide +kernel) (pa_cons pe_int (pa_cons (pe_un un_neg (pv 0)) pa_nil))))), ?_⟩
    walk_at "vc"
    have e : (if -d > 0 then -d else 0) = ((bgn d : Nat) : Int) := by unfold bgn; omega
    rw [e]
    exact q


theorem oklikes_of {f : Addr} {fd : FuncData} {uLIKE uUNLIKE : Value} {flane_begin : Addr} {fdlane_begin : FuncData} (F : Fun K "likes_of" "likes_of" slikes_of f fd) (B : Bl mg) (C : Cs mg uLIKE uUNLIKE) (Dlane_begin : Dn P w K mg base "lane_begin" 1 ["shift"] (splane_begin K) flane_begin fdlane_begin) : FnOk P w K mg base CX0 2 f fd ["one", "other", "shift"] (splikes_of K) := by
  refine F.ok sclikes_of (fun vs H Q E h => ?_) (fun cdv A outer s H vs Q E hr h => ?_)
  · first
      | (obtain ⟨_, rfl, _⟩ := h; rfl)
      | (obtain ⟨_, _, rfl, _⟩ := h; rfl)
      | (obtain ⟨_, _, _, rfl, _⟩ := h; rfl)
      | (obtain ⟨_, _, _, _, rfl, _⟩ := h; rfl)
      | (obtain ⟨_, _, _, _, _, rfl, _⟩ := h; rfl)
      | (obtain ⟨_, _, _, _, _, _, rfl, _⟩ := h; rfl)
      | (obtain ⟨_, _, _, _, _, _, _, rfl, _⟩ := h; rfl)
      | (obtain ⟨_, _, _, _, _, _, _, _, rfl, _⟩ := h; rfl)
      | (obtain ⟨_, _, _, _, _, _, _, _, _, rfl, _⟩ := h; rfl)
      | (obtain ⟨_, _, _, _, _, _, _, _, _, _, rfl, _⟩ := h; rfl)
      | (obtain ⟨_, _, _, _, _, _, _, _, _, _, _, rfl, _⟩ := h; rfl)
  · obtain ⟨o, t, d, rfl, ho, ht, hd1, hd2, q⟩ := h
    have eo : ((S o).length : Int) = o.length := by rw [len_S]
    have et : ((S t).length : Int) = t.length := by rw [len_S]
    have lo : (S o).length ≤ sizeLine := hp_sz (by rw [len_S]; omega)
    have lt : (S t).length ≤ sizeLine := hp_sz (by rw [len_S]; omega)
    refine ⟨_, 
  (pss_cons (ps_set (i := 3) sclikes_of.nd rfl (.inl rfl) (pe_call Dlane_begin.ok hr (by rfl) Dlane_begin.g Dlane_begin.kp Dlane_begin.b .nil pass0 (pa_cons (pv 2) pa_nil))) 
  (pss_cons (ps_set (i := 4) sclikes_of.nd rfl (.inl rfl) (pe_callB (call_min2 rfl) (by rfl) B.m_min (by decide +kernel) (pa_cons (pe_callB call_len_str (by rfl) B.m_len PySem.boot_len (pa_cons (pv 0) pa_nil)) (pa_cons (pe_op op_sub (pe_callB call_len_str (by rfl) B.m_len PySem.boot_len (pa_cons (pv 1) pa_nil)) (pv 2)) pa_nil)))) 
  (pss_one (ps_ret (pe_join pe_str (pe_lc (own := [("place", 5)]) (g := gName 5) (tt := tYes) rfl sclikes_of.nd (pi_range2 rfl B.m_range (pa_cons (pv 3) (pa_cons (pv 4) pa_nil))) (blkOk_by (N := nlikes_of) (sc := defScope slikes_of) (by decide +kernel)) (fun _ _ _ _ _ => (pg_name (i := 5) sclikes_of.nd rfl (.inl rfl))) (fun _ _ _ _ _ => pts_nil) (fun _ _ _ _ _ => (pe_ifExp (pt_cmpR op_eq (pe_ix ix_str (pv 0) (pv 5) (fun _ _ => rfl)) (pe_ix ix_str (pv 1) (pe_op op_add (pv 5) (pv 2)) (fun _ _ => rfl)) (nomark _)) (pe_glob rfl C.c_LIKE.2 C.c_LIKE.1) (pe_glob rfl C.c_UNLIKE.2 C.c_UNLIKE.1))))))))), ?_⟩
    walk_at "vc"
    refine ⟨d, rfl, ?_⟩
    walk_at "vc"
    have eb : ((bgn d : Nat) : Int) = if -d > 0 then -d else 0 := by unfold bgn; omega
    refine ⟨⟨by omega, by omega, by split <;> omega, by split <;> omega⟩, ?_⟩
    have en : ((if ((S t).length : Int) - d < ((S o).length : Int) then ((S t).length : Int) - d else ((S o).length : Int)) - ((bgn d : Nat) : Int)).toNat = lkn o.length t.length d := by
      rw [eo, et]
      unfold lkn
      omega
    rw [en]
    intro D hD
    refine lc_range (fun i H' => Same H H' ∧ H' D = some (.lst ((List.range i).map fun i => V.str (sg (lk1 o t d (bgn d + i)))))) ⟨same_upd hD, upd_same⟩ (fun i H' hi h => ?_) (fun H' h => ?_)
    · walk_at "vc"
      refine ⟨rfl, ?_⟩
      have h1 : bgn d + i < o.length := by unfold lkn at hi; omega
      have h2 : 0 ≤ ((bgn d + i : Nat) : Int) + d := by unfold bgn; omega
      have h3 : (((bgn d + i : Nat) : Int) + d).toNat < t.length := by unfold lkn at hi; omega
      walk_at "vc"
      refine x_ixS lo (c := o[bgn d + i]) (atI_of (by omega) ?_) ?_
      · have e : (((bgn d : Nat) : Int) + (i : Int)).toNat = bgn d + i := by omega
        rw [e]
        exact List.getElem?_eq_getElem h1
      walk_at "vc"
      refine x_ixS lt (c := t[(((bgn d + i : Nat) : Int) + d).toNat]) (atI_of (by omega) ?_) ?_
      · have e : ((((bgn d : Nat) : Int) + (i : Int)) + d).toNat = (((bgn d + i : Nat) : Int) + d).toNat := by omega
        rw [e]
        exact List.getElem?_eq_getElem h3
      walk_at "vc"
      have ek : ∀ c : Nat, lk1 o t d (bgn d + i) = c → ∃ acc, H' D = some (.lst acc) ∧ acc.length < sizeLine ∧ (Same H (upd H' D (.lst (acc ++ [V.str (sg c)]))) ∧ upd H' D (.lst (acc ++ [V.str (sg c)])) D = some (.lst ((List.range (i + 1)).map fun i => V.str (sg (lk1 o t d (bgn d + i)))))) :=
        fun c hc => pv_step hD h.1 h.2 (by unfold lkn at hi; omega) (by rw [hc])
      have el : lk1 o t d (bgn d + i) = if o[bgn d + i] = t[(((bgn d + i : Nat) : Int) + d).toNat] then 61 else 47 := by
        unfold lk1
        rw [List.getElem?_eq_getElem h1, List.getElem?_eq_getElem h3]
        simp only [Option.some.injEq]
      refine ite2 (fun e => ?_) (fun e => ?_)
      · walk_at "vc"
        refine ek 61 ?_
        have e' := of_decide_eq_true e
        rw [el, if_pos]
        simpa using e'
      · walk_at "vc"
        refine ek 47 ?_
        rw [el, if_neg]
        intro e'
        exact e (decide_eq_true (by rw [e']))
    · refine join_end (cs := likL o t d) ?_ (by have := likL_le o t d; omega) ?_
      · rw [h.2, likL_eq, List.map_map]
        rfl
      · exact q H' h.1


theorem okworth_of {f : Addr} {fd : FuncData} {uLIKE uUNLIKE : Value} (F : Fun K "worth_of" "worth_of" sworth_of f fd) (B : Bl mg) (C : Cs mg uLIKE uUNLIKE) : FnOk P w K mg base CX0 1 f fd ["likes", "scale"] (spworth_of K) := by
  refine F.ok scworth_of (fun vs H Q E h => ?_) (fun cdv A outer s H vs Q E hr h => ?_)
  · first
      | (obtain ⟨_, rfl, _⟩ := h; rfl)
      | (obtain ⟨_, _, rfl, _⟩ := h; rfl)
      | (obtain ⟨_, _, _, rfl, _⟩ := h; rfl)
      | (obtain ⟨_, _, _, _, rfl, _⟩ := h; rfl)
      | (obtain ⟨_, _, _, _, _, rfl, _⟩ := h; rfl)
      | (obtain ⟨_, _, _, _, _, _, rfl, _⟩ := h; rfl)
      | (obtain ⟨_, _, _, _, _, _, _, rfl, _⟩ := h; rfl)
      | (obtain ⟨_, _, _, _, _, _, _, _, rfl, _⟩ := h; rfl)
      | (obtain ⟨_, _, _, _, _, _, _, _, _, rfl, _⟩ := h; rfl)
      | (obtain ⟨_, _, _, _, _, _, _, _, _, _, rfl, _⟩ := h; rfl)
      | (obtain ⟨_, _, _, _, _, _, _, _, _, _, _, rfl, _⟩ := h; rfl)
  · obtain ⟨z, p, g, l, rfl, hT, hz, hg1, hg2, hl1, hl2, q⟩ := h
    refine ⟨_, 
  (pss_cons (ps_asg (pv 1) (pg_tup rfl (pgs_cons (pg_name (i := 2) scworth_of.nd rfl (.inl rfl)) (pgs_cons (pg_name (i := 3) scworth_of.nd rfl (.inl rfl)) pgs_nil)))) 
  (pss_one (ps_ret (pe_op op_sub (pe_op op_mul (pv 2) (pe_m1 PySem.F.slot_str_count PySem.F.type_str_count mt_count (pv 0) (pe_glob rfl C.c_LIKE.2 C.c_LIKE.1))) (pe_op op_mul (pv 3) (pe_m1 PySem.F.slot_str_count PySem.F.type_str_count mt_count (pv 0) (pe_glob rfl C.c_UNLIKE.2 C.c_UNLIKE.1))))))), ?_⟩
    walk_at "vc"
    have e1 := count_sign (S z) 61
    have e2 := count_sign (S z) 47
    have e3 := wor_count g l hz
    rw [tl_S] at e1 e2
    show Q (V.int (g * Txt.count (S z) (sg 61) - l * Txt.count (S z) (sg 47))) H
    rw [e1, e2, e3]
    exact q


theorem ok_law_next {f : Addr} {fd : FuncData} (F : Fun K "_law_next" "_law_next" s_law_next f fd) (B : Bl mg) : FnOk P w K mg base CX0 1 f fd ["_law_h", "_law_many"] (sp_law_next K) := by
  refine F.ok sc_law_next (fun vs H Q E h => ?_) (fun cdv A outer s H vs Q E hr h => ?_)
  · first
      | (obtain ⟨_, rfl, _⟩ := h; rfl)
      | (obtain ⟨_, _, rfl, _⟩ := h; rfl)
      | (obtain ⟨_, _, _, rfl, _⟩ := h; rfl)
      | (obtain ⟨_, _, _, _, rfl, _⟩ := h; rfl)
      | (obtain ⟨_, _, _, _, _, rfl, _⟩ := h; rfl)
      | (obtain ⟨_, _, _, _, _, _, rfl, _⟩ := h; rfl)
      | (obtain ⟨_, _, _, _, _, _, _, rfl, _⟩ := h; rfl)
      | (obtain ⟨_, _, _, _, _, _, _, _, rfl, _⟩ := h; rfl)
      | (obtain ⟨_, _, _, _, _, _, _, _, _, rfl, _⟩ := h; rfl)
      | (obtain ⟨_, _, _, _, _, _, _, _, _, _, rfl, _⟩ := h; rfl)
      | (obtain ⟨_, _, _, _, _, _, _, _, _, _, _, rfl, _⟩ := h; rfl)
  · obtain ⟨a, b, m, rfl, ⟨nab, s0, i0, cs, ha, hb, hcs⟩, hm, hm2, q⟩ := h
    refine ⟨_, 
  (pss_cons (ps_set (i := 2) sc_law_next.nd rfl (.inl rfl) (pe_op op_mod (pe_ix ix_list (pv 0) pe_int (fun _ _ => rfl)) (pe_callB (call_max2 rfl) (by rfl) B.m_max (by decide +kernel) (pa_cons pe_int (pa_cons (pe_callB call_len_seq (by rfl) B.m_len PySem.boot_len (pa_cons (pe_ix ix_list (pv 0) pe_int (fun _ _ => rfl)) pa_nil)) pa_nil))))) 
  (pss_cons (ps_set (i := 3) sc_law_next.nd rfl (.inl rfl) (pe_ifExp (pt_cmpR (op_neD hr.units) (pe_ix ix_list (pv 0) pe_int (fun _ _ => rfl)) (pe_lst pa_nil) (nomark _)) (pe_ix ix_list (pe_ix ix_list (pv 0) pe_int (fun _ _ => rfl)) (pv 2) (fun _ _ => rfl)) pe_int)) 
  (pss_cons (ps_if (pt_cmpR op_ge (pv 3) (pe_op op_pow pe_int pe_int) (nomark _)) 
    (pss_cons (ps_asg (pe_op op_fdiv (pv 3) (pv 1)) (pg_sub (pe_ix ix_list (pv 0) pe_int (fun _ _ => rfl)) (pv 2) set_list)) 
    (pss_one (ps_ret (pe_op op_mod (pv 3) (pv 1))))) pss_nil) 
  (pss_cons (ps_asg (pe_op op_mod (pe_op op_add (pe_op op_add (pe_op op_mul (pe_ix ix_list (pv 0) pe_int (fun _ _ => rfl)) pe_int) (pe_op op_mul (pv 3) pe_int)) pe_int) pe_int) (pg_sub (pv 0) pe_int set_list)) 
  (pss_cons (ps_asg (pe_op op_add (pe_ix ix_list (pv 0) pe_int (fun _ _ => rfl)) pe_int) (pg_sub (pv 0) pe_int set_list)) 
  (pss_one (ps_ret (pe_op op_mod (pe_op op_fdiv (pe_ix ix_list (pv 0) pe_int (fun _ _ => rfl)) pe_int) (pv 1))))))))), ?_⟩
    walk_at "vc"
    refine ⟨by decide, fun p hp => ?_⟩
    have kp : Kp a b H (upd H p (.lst [])) := Kp.new hp
    have ha1 : upd H p (.lst []) a = some (HO.lst [V.int s0, V.ref b, V.int i0]) := by rw [upd_ne (ne_of_none ha hp)]; exact ha
    have hb1 : upd H p (.lst []) b = some (HO.lst (List.map V.int cs)) := by rw [upd_ne (ne_of_none hb hp)]; exact hb
    have hp1 : upd H p (.lst []) p = some (HO.lst []) := upd_same
    generalize upd H p (.lst []) = H1 at kp ha1 hb1 hp1
    refine ⟨.list (cs.map PyData.int), .list [], .lst (SqL.of hb1) (dp_ints cs), .lst (SqL.of hp1) .nil, shaped_ints cs, by decide +kernel, ?_⟩
    have hat : ∃ at_ : Int, (i0 % if ((cs.map V.int).length : Int) > 1 then ((cs.map V.int).length : Int) else 1) = at_ ∧ 0 ≤ at_ ∧ (cs ≠ [] → at_ < (cs.length : Int)) := by
      refine ⟨_, rfl, Int.emod_nonneg _ (by split <;> omega), fun hne => ?_⟩
      have hl : 0 < cs.length := List.length_pos_iff.mpr hne
      rw [List.length_map]
      by_cases h1 : (cs.length : Int) > 1
      · rw [if_pos h1]
        exact Int.emod_lt_of_pos _ (by omega)
      · rw [if_neg h1]
        have := Int.emod_lt_of_pos i0 (show (0 : Int) < 1 by omega)
        omega
    obtain ⟨at_, eat, hat0, hat1⟩ := hat
    rw [eat]
    rw [eqv_ints_nil]
    walk_at "vc"
    by_cases hne : cs = []
    · subst hne
      refine iteF ?_
      walk_at "vc"
      refine ite2 (fun e => absurd (of_decide_eq_true e) (by decide)) (fun e => ?_)
      walk_at "vc"
      refine q _ _ (Int.emod_nonneg _ (by omega)) (Int.emod_lt_of_pos _ hm) ⟨nab, _, _, [], upd_same, ?_, by decide⟩ (kp.trans (Kp.at_a.trans Kp.at_a))
      walk_at "hp"
    · have hb0 : (!cs.isEmpty) = true := by
        cases cs with
        | nil => exact absurd rfl hne
        | cons _ _ => rfl
      rw [hb0]
      refine iteT ?_
      have hl : at_.toNat < cs.length := by have := hat1 hne; omega
      have hix : atI (cs.map V.int) at_ = some (.int cs[at_.toNat]) := atI_of hat0 (ints_at hl)
      have hix2 : ixN (cs.map V.int).length at_ = some at_.toNat := ixN_of hat0 (by rw [List.length_map]; exact hat1 hne)
      walk_at "vc"
      refine ite2 (fun e => ?_) (fun e => ?_)
      · walk_at "vc"
        refine q _ _ (Int.emod_nonneg _ (by omega)) (Int.emod_lt_of_pos _ hm) ⟨nab, s0, i0, cs.set at_.toNat (cs[at_.toNat] / m), ?_, ?_, by rw [List.length_set]; exact hcs⟩ (kp.trans Kp.at_b)
        · walk_at "hp"
        · rw [← map_set_int]
          exact upd_same
      · walk_at "vc"
        refine q _ _ (Int.emod_nonneg _ (by omega)) (Int.emod_lt_of_pos _ hm) ⟨nab, _, _, cs, upd_same, ?_, hcs⟩ (kp.trans (Kp.at_a.trans Kp.at_a))
        walk_at "hp"


theorem ok_law_letters {f : Addr} {fd : FuncData} {f_law_next : Addr} {fd_law_next : FuncData} (F : Fun K "_law_letters" "_law_letters" s_law_letters f fd) (B : Bl mg) (D_law_next : Dn P w K mg base "_law_next" 1 ["_law_h", "_law_many"] (sp_law_next K) f_law_next fd_law_next) : FnOk P w K mg base CX0 2 f fd ["_law_h"] (sp_law_letters K) := by
  refine F.ok sc_law_letters (fun vs H Q E h => ?_) (fun cdv A outer s H vs Q E hr h => ?_)
  · first
      | (obtain ⟨_, rfl, _⟩ := h; rfl)
      | (obtain ⟨_, _, rfl, _⟩ := h; rfl)
      | (obtain ⟨_, _, _, rfl, _⟩ := h; rfl)
      | (obtain ⟨_, _, _, _, rfl, _⟩ := h; rfl)
      | (obtain ⟨_, _, _, _, _, rfl, _⟩ := h; rfl)
      | (obtain ⟨_, _, _, _, _, _, rfl, _⟩ := h; rfl)
      | (obtain ⟨_, _, _, _, _, _, _, rfl, _⟩ := h; rfl)
      | (obtain ⟨_, _, _, _, _, _, _, _, rfl, _⟩ := h; rfl)
      | (obtain ⟨_, _, _, _, _, _, _, _, _, rfl, _⟩ := h; rfl)
      | (obtain ⟨_, _, _, _, _, _, _, _, _, _, rfl, _⟩ := h; rfl)
      | (obtain ⟨_, _, _, _, _, _, _, _, _, _, _, rfl, _⟩ := h; rfl)
  · obtain ⟨a, b, rfl, hs, q⟩ := h
    refine ⟨_, 
  (pss_cons (ps_set (i := 1) sc_law_letters.nd rfl (.inr rfl) (pe_call D_law_next.ok hr (by rfl) D_law_next.g D_law_next.kp D_law_next.b .nil pass0 (pa_cons (pv 0) (pa_cons pe_int pa_nil)))) 
  (pss_one (ps_ret (pe_join pe_str (pe_lc (own := [("_law_k", 2)]) (g := gName 2) (tt := tYes) rfl sc_law_letters.nd (pi_range1 rfl B.m_range (pa_cons (pe_op op_add pe_int (pe_call D_law_next.ok hr (by rfl) D_law_next.g D_law_next.kp D_law_next.b .nil pass0 (pa_cons (pv 0) (pa_cons pe_int pa_nil)))) pa_nil)) (blkOk_by (N := n_law_letters) (sc := defScope s_law_letters) (by decide +kernel)) (fun _ _ _ _ _ => (pg_name (i := 2) sc_law_letters.nd rfl (.inl rfl))) (fun _ _ _ _ _ => pts_nil) (fun _ _ _ _ _ => (pe_ix ix_str pe_str (pe_op op_mod (pe_op op_add (pv 1) (pe_op op_mul pe_int (pv 2))) pe_int) (fun _ _ => rfl)))))))), ?_⟩
    walk_at "vc"
    refine ⟨a, b, 26, rfl, hs, by omega, by omega, fun r H1 r0 r1 hs1 k1 => ?_⟩
    walk_at "vc"
    refine ⟨a, b, 5, rfl, hs1, by omega, by omega, fun r' H2 r2 r3 hs2 k2 => ?_⟩
    walk_at "vc"
    intro D hD
    have hf : ∀ i, i < (2 + r').toNat → atI (("abcdefghijklmnopqrstuvwxyz" : Str).cps.toList) ((r + 7 * (0 + (i : Int))) % 26) = some (97 + (r.toNat + 7 * i) % 26) := fun i hi => by
      have e : (r + 7 * (0 + (i : Int))) % 26 = (((r.toNat + 7 * i) % 26 : Nat) : Int) := by omega
      rw [e]
      refine atI_nat ?_
      have h : (r.toNat + 7 * i) % 26 < 26 := Nat.mod_lt _ (by decide)
      generalize (r.toNat + 7 * i) % 26 = j at h
      have e2 : ("abcdefghijklmnopqrstuvwxyz" : Str).cps.toList = (List.range 26).map (97 + ·) := by decide +kernel
      rw [e2, List.getElem?_map, List.getElem?_range h]
      rfl
    refine lc_range (fun i H' => Same H2 H' ∧ H' D = some (.lst ((List.range i).map fun k => V.str (sg (97 + (r.toNat + 7 * k) % 26))))) ⟨same_upd hD, upd_same⟩ (fun i H' hi h => ?_) (fun H' h => ?_)
    · walk_at "vc"
      refine ⟨rfl, ?_⟩
      walk_at "vc"
      refine x_ixS (by decide +kernel) (hf i hi) ?_
      exact pv_step hD h.1 h.2 (by omega) rfl
    · refine join_end (cs := letL r.toNat (2 + r').toNat) ?_ (by rw [letL_len]; omega) ?_
      · rw [h.2]
        unfold letL
        rw [List.map_map]
        rfl
      · refine q r.toNat (2 + r').toNat H' (by omega) (by omega) (by omega) ?_ (k1.trans (k2.trans (Kp.of h.1)))
        obtain ⟨n, s, i, cs, h1, h2, h3⟩ := hs2
        exact ⟨n, s, i, cs, h.1 _ _ h1, h.1 _ _ h2, h3⟩


theorem ok_law_row {f : Addr} {fd : FuncData} {f_law_next : Addr} {fd_law_next : FuncData} (F : Fun K "_law_row" "_law_row" s_law_row f fd) (B : Bl mg) (D_law_next : Dn P w K mg base "_law_next" 1 ["_law_h", "_law_many"] (sp_law_next K) f_law_next fd_law_next) : FnOk P w K mg base CX0 2 f fd ["_law_h", "_law_letters_here", "_law_most"] (sp_law_row K) := by
  refine F.ok sc_law_row (fun vs H Q E h => ?_) (fun cdv A outer s H vs Q E hr h => ?_)
  · first
      | (obtain ⟨_, rfl, _⟩ := h; rfl)
      | (obtain ⟨_, _, rfl, _⟩ := h; rfl)
      | (obtain ⟨_, _, _, rfl, _⟩ := h; rfl)
      | (obtain ⟨_, _, _, _, rfl, _⟩ := h; rfl)
      | (obtain ⟨_, _, _, _, _, rfl, _⟩ := h; rfl)
      | (obtain ⟨_, _, _, _, _, _, rfl, _⟩ := h; rfl)
      | (obtain ⟨_, _, _, _, _, _, _, rfl, _⟩ := h; rfl)
      | (obtain ⟨_, _, _, _, _, _, _, _, rfl, _⟩ := h; rfl)
      | (obtain ⟨_, _, _, _, _, _, _, _, _, rfl, _⟩ := h; rfl)
      | (obtain ⟨_, _, _, _, _, _, _, _, _, _, rfl, _⟩ := h; rfl)
      | (obtain ⟨_, _, _, _, _, _, _, _, _, _, _, rfl, _⟩ := h; rfl)
  · obtain ⟨a, b, l, m, rfl, hs, hl0, hl1, hm0, hm1, q⟩ := h
    have el : (S l).length = l.length := len_S l
    have hl : (S l).length ≤ sizeLine := hp_sz (by omega)
    refine ⟨_, 
  (pss_one (ps_ret (pe_join pe_str (pe_lc (own := [("_law_k", 3)]) (g := gName 3) (tt := tYes) rfl sc_law_row.nd (pi_range1 rfl B.m_range (pa_cons (pe_call D_law_next.ok hr (by rfl) D_law_next.g D_law_next.kp D_law_next.b .nil pass0 (pa_cons (pv 0) (pa_cons (pe_op op_add (pv 2) pe_int) pa_nil))) pa_nil)) (blkOk_by (N := n_law_row) (sc := defScope s_law_row) (by decide +kernel)) (fun _ _ _ _ _ => (pg_name (i := 3) sc_law_row.nd rfl (.inl rfl))) (fun _ _ _ _ _ => pts_nil) (fun _ _ _ _ _ => (pe_ix ix_str (pv 1) (pe_call D_law_next.ok hr (by rfl) D_law_next.g D_law_next.kp D_law_next.b .nil pass0 (pa_cons (pv 0) (pa_cons (pe_callB call_len_str (by rfl) B.m_len PySem.boot_len (pa_cons (pv 1) pa_nil)) pa_nil))) (fun _ _ => rfl))))))), ?_⟩
    walk_at "vc"
    refine ⟨a, b, m + 1, rfl, hs, by omega, by omega, fun r H1 r0 r1 hs1 k1 => ?_⟩
    walk_at "vc"
    intro D hD
    refine lc_range (fun i H' => Dr a b H1 D (fun c => c ∈ l) i H') (Dr.start hs1 hD) (fun i H' hi h => ?_) (fun H' h => ?_)
    · walk_at "vc"
      refine ⟨rfl, ?_⟩
      walk_at "vc"
      have hsd : Src H' a b := by obtain ⟨_, _, _, x, _⟩ := h; exact x
      refine ⟨a, b, ((S l).length : Nat), rfl, hsd, by omega, by omega, fun r' H2 r2 r3 hs2 k2 => ?_⟩
      have hr' : r'.toNat < l.length := by omega
      refine x_ixS hl (atI_of r2 (List.getElem?_eq_getElem hr')) ?_
      exact h.step hD hs1 (by omega) hs2 k2 (List.getElem_mem hr')
    · obtain ⟨cs, hcl, hok, hsd, kd, hDd⟩ := h
      refine join_end (cs := cs) hDd (by omega) ?_
      exact q cs H' (by omega) hok hsd (k1.trans kd)


theorem ok_law_near {f : Addr} {fd : FuncData} {f_law_row : Addr} {fd_law_row : FuncData} {f_law_next : Addr} {fd_law_next : FuncData} (F : Fun K "_law_near" "_law_near" s_law_near f fd) (B : Bl mg) (D_law_row : Dn P w K mg base "_law_row" 2 ["_law_h", "_law_letters_here", "_law_most"] (sp_law_row K) f_law_row fd_law_row) (D_law_next : Dn P w K mg base "_law_next" 1 ["_law_h", "_law_many"] (sp_law_next K) f_law_next fd_law_next) : FnOk P w K mg base CX0 3 f fd ["_law_h", "_law_row_here", "_law_letters_here"] (sp_law_near K) := by
  refine F.ok sc_law_near (fun vs H Q E h => ?_) (fun cdv A outer s H vs Q E hr h => ?_)
  · first
      | (obtain ⟨_, rfl, _⟩ := h; rfl)
      | (obtain ⟨_, _, rfl, _⟩ := h; rfl)
      | (obtain ⟨_, _, _, rfl, _⟩ := h; rfl)
      | (obtain ⟨_, _, _, _, rfl, _⟩ := h; rfl)
      | (obtain ⟨_, _, _, _, _, rfl, _⟩ := h; rfl)
      | (obtain ⟨_, _, _, _, _, _, rfl, _⟩ := h; rfl)
      | (obtain ⟨_, _, _, _, _, _, _, rfl, _⟩ := h; rfl)
      | (obtain ⟨_, _, _, _, _, _, _, _, rfl, _⟩ := h; rfl)
      | (obtain ⟨_, _, _, _, _, _, _, _, _, rfl, _⟩ := h; rfl)
      | (obtain ⟨_, _, _, _, _, _, _, _, _, _, rfl, _⟩ := h; rfl)
      | (obtain ⟨_, _, _, _, _, _, _, _, _, _, _, rfl, _⟩ := h; rfl)
  · obtain ⟨a, b, r, l, rfl, hs, hl0, hl1, hr1, hrl, q⟩ := h
    have el : (S l).length = l.length := len_S l
    have er : (S r).length = r.length := len_S r
    have hl : (S l).length ≤ sizeLine := hp_sz (by omega)
    refine ⟨_, 
  (pss_cons (ps_set (i := 3) sc_law_near.nd rfl (.inl rfl) (pe_call D_law_row.ok hr (by rfl) D_law_row.g D_law_row.kp D_law_row.b .nil pass0 (pa_cons (pv 0) (pa_cons (pv 2) (pa_cons pe_int pa_nil))))) 
  (pss_cons (ps_set (i := 4) sc_law_near.nd rfl (.inl rfl) (pe_op op_add pe_int (pe_call D_law_next.ok (hr.mono (by decide)) (by rfl) D_law_next.g D_law_next.kp D_law_next.b .nil pass0 (pa_cons (pv 0) (pa_cons pe_int pa_nil))))) 
  (pss_cons (ps_for PassesOwn.never rfl (pi_str (pv 1)) (pg_name (i := 5) sc_law_near.nd rfl (.inl rfl)) 
    (pss_cons (ps_set (i := 6) sc_law_near.nd rfl (.inl rfl) (pe_call D_law_next.ok (hr.mono (by decide)) (by rfl) D_law_next.g D_law_next.kp D_law_next.b .nil pass0 (pa_cons (pv 0) (pa_cons (pv 4) pa_nil)))) 
    (pss_one (ps_if (pt_cmpR op_gt (pv 6) pe_int (nomark _)) 
      (pss_one (ps_set (i := 3) sc_law_near.nd rfl (.inl rfl) (pe_op op_add_str (pv 3) (pv 5)))) 
      (pss_one (ps_if (pt_cmpR op_gt (pe_call D_law_next.ok (hr.mono (by decide)) (by rfl) D_law_next.g D_law_next.kp D_law_next.b .nil pass0 (pa_cons (pv 0) (pa_cons pe_int pa_nil))) pe_int (nomark _)) 
        (pss_one (ps_set (i := 3) sc_law_near.nd rfl (.inl rfl) (pe_op op_add_str (pv 3) (pe_ix ix_str (pv 2) (pe_call D_law_next.ok (hr.mono (by decide)) (by rfl) D_law_next.g D_law_next.kp D_law_next.b .nil pass0 (pa_cons (pv 0) (pa_cons (pe_callB call_len_str (by rfl) B.m_len PySem.boot_len (pa_cons (pv 2) pa_nil)) pa_nil))) (fun _ _ => rfl))))) pss_nil)))))) 
  (pss_one (ps_ret (pe_slice sl_str (pe_op op_add_str (pv 3) (pe_call D_law_row.ok hr (by rfl) D_law_row.g D_law_row.kp D_law_row.b .nil pass0 (pa_cons (pv 0) (pa_cons (pv 2) (pa_cons pe_int pa_nil))))) po_none (po_some pe_int))))))), ?_⟩
    walk_at "vc"
    refine ⟨a, b, l, 6, rfl, hs, hl0, hl1, by omega, by omega, fun f H1 hf1 hf2 hs1 k1 => ?_⟩
    walk_at "vc"
    refine ⟨a, b, 12, rfl, hs1, by omega, by omega, fun kk H2 kk0 kk1 hs2 k2 => ?_⟩
    walk_at "vc"
    refine for_it (walk_str (z := S r)) (fun i σ H' => ∃ (z : List Nat) (y5 y6 : Option V), σ = [some (.ref a), some (.str (S r)), some (.str (S l)), some (.str (S z)), some (.int (2 + kk)), y5, y6] ∧ z.length ≤ 6 + i ∧ (∀ c ∈ z, c ∈ l) ∧ Src H' a b ∧ Kp a b H H')
      ⟨f, none, none, rfl, by omega, hf2, hs2, k1.trans k2⟩ (fun _ _ _ _ _ => trivial) ?_ ?_
    · rintro i x σ H3 H4 hi ⟨z, y5, y6, rfl, hz1, hz2, hs3, k3⟩ ⟨rfl, c, hc, rfl⟩
      have hi' : i < r.length := hi
      have hcl : c ∈ l := by
        refine hrl c ?_
        have : r[i]? = some c := by simpa [S] using hc
        exact List.mem_of_getElem? this
      have ez : (S z).length = z.length := len_S z
      have fin : ∀ (z' : List Nat) (y5 y6 : Option V) (H5 : Hp), z'.length ≤ 6 + (i + 1) → (∀ c ∈ z', c ∈ l) → Src H5 a b → Kp a b H4 H5 → ∃ (z : List Nat) (y5' y6' : Option V), [some (V.ref a), some (.str (S r)), some (.str (S l)), some (.str (S z')), some (.int (2 + kk)), y5, y6] = [some (.ref a), some (.str (S r)), some (.str (S l)), some (.str (S z)), some (.int (2 + kk)), y5', y6'] ∧ z.length ≤ 6 + (i + 1) ∧ (∀ c ∈ z, c ∈ l) ∧ Src H5 a b ∧ Kp a b H H5 :=
        fun z' y5 y6 H5 h1 h2 h3 h4 => ⟨z', y5, y6, rfl, h1, h2, h3, k3.trans h4⟩
      have hadd : ∀ d : Nat, d ∈ l → (z ++ [d]).length ≤ 6 + (i + 1) ∧ ∀ c ∈ z ++ [d], c ∈ l := fun d hd => by
        refine ⟨by rw [List.length_append]; show z.length + 1 ≤ _; omega, fun c hc => ?_⟩
        rcases List.mem_append.mp hc with h | h
        · exact hz2 c h
        · rw [List.mem_singleton.mp h]
          exact hd
      walk_at "vc"
      refine ⟨a, b, 2 + kk, rfl, hs3, by omega, by omega, fun w1 H5 w10 w11 hs5 k5 => ?_⟩
      walk_at "vc"
      refine ite2 (fun e => ?_) (fun e => ?_)
      · walk_at "vc"
        refine ⟨S z, sg c, rfl, rfl, hp_sz (by show (S z).length + 1 ≤ _; omega), ?_⟩
        rw [sg_S, S_app]
        exact fin (z ++ [c]) _ _ H5 (hadd c hcl).1 (hadd c hcl).2 hs5 k5
      · walk_at "vc"
        refine ⟨a, b, 3, rfl, hs5, by omega, by omega, fun w2 H6 w20 w21 hs6 k6 => ?_⟩
        walk_at "vc"
        refine ite2 (fun e => ?_) (fun e => ?_)
        · walk_at "vc"
          refine ⟨a, b, ((S l).length : Nat), rfl, hs6, by omega, by omega, fun w3 H7 w30 w31 hs7 k7 => ?_⟩
          have hw : w3.toNat < l.length := by omega
          refine x_ixS hl (atI_of w30 (List.getElem?_eq_getElem hw)) ?_
          refine ⟨S z, sg l[w3.toNat], rfl, rfl, hp_sz (by show (S z).length + 1 ≤ _; omega), ?_⟩
          walk_at "vc"
          rw [sg_S, S_app]
          exact fin (z ++ [l[w3.toNat]]) _ _ H7 (hadd _ (List.getElem_mem hw)).1 (hadd _ (List.getElem_mem hw)).2 hs7 (k5.trans (k6.trans k7))
        · walk_at "vc"
          exact fin z _ _ H6 (by omega) hz2 hs6 (k5.trans k6)
    · rintro σ H3 ⟨z, y5, y6, rfl, hz1, hz2, hs3, k3⟩
      have hz1' : z.length ≤ 6 + r.length := hz1
      walk_at "vc"
      refine ⟨a, b, l, 6, rfl, hs3, hl0, hl1, by omega, by omega, fun f2 H4 hg1 hg2 hs4 k4 => ?_⟩
      refine ⟨S z, S f2, rfl, rfl, hp_sz (by rw [len_S, len_S]; omega), ?_⟩
      rw [S_app]
      walk_at "vc"
      refine x_slS (hp_sz (by rw [len_S, List.length_append]; omega)) ?_
      have hall : ∀ c ∈ z ++ f2, c ∈ l := fun c hc => by
        rcases List.mem_append.mp hc with h | h
        · exact hz2 c h
        · exact hg2 c h
      have ecut : cutS (S (z ++ f2)) none (some 60) = S ((z ++ f2).take 60) := cutS_take (z ++ f2) 60
      rw [ecut]
      exact q _ H4 (by rw [List.length_take]; omega) (fun c hc => hall c (List.mem_of_mem_take hc)) hs4 (k3.trans k4)


theorem ok_law_scale {f : Addr} {fd : FuncData} {f_law_next : Addr} {fd_law_next : FuncData} (F : Fun K "_law_scale" "_law_scale" s_law_scale f fd) (B : Bl mg) (D_law_next : Dn P w K mg base "_law_next" 1 ["_law_h", "_law_many"] (sp_law_next K) f_law_next fd_law_next) : FnOk P w K mg base CX0 2 f fd ["_law_h"] (sp_law_scale K) := by
  refine F.ok sc_law_scale (fun vs H Q E h => ?_) (fun cdv A outer s H vs Q E hr h => ?_)
  · first
      | (obtain ⟨_, rfl, _⟩ := h; rfl)
      | (obtain ⟨_, _, rfl, _⟩ := h; rfl)
      | (obtain ⟨_, _, _, rfl, _⟩ := h; rfl)
      | (obtain ⟨_, _, _, _, rfl, _⟩ := h; rfl)
      | (obtain ⟨_, _, _, _, _, rfl, _⟩ := h; rfl)
      | (obtain ⟨_, _, _, _, _, _, rfl, _⟩ := h; rfl)
      | (obtain ⟨_, _, _, _, _, _, _, rfl, _⟩ := h; rfl)
      | (obtain ⟨_, _, _, _, _, _, _, _, rfl, _⟩ := h; rfl)
      | (obtain ⟨_, _, _, _, _, _, _, _, _, rfl, _⟩ := h; rfl)
      | (obtain ⟨_, _, _, _, _, _, _, _, _, _, rfl, _⟩ := h; rfl)
      | (obtain ⟨_, _, _, _, _, _, _, _, _, _, _, rfl, _⟩ := h; rfl)
  · obtain ⟨a, b, rfl, hs, q⟩ := h
    refine ⟨_, 
  (pss_one (ps_ret (pe_tup (pa_cons (pe_op op_add pe_int (pe_call D_law_next.ok hr (by rfl) D_law_next.g D_law_next.kp D_law_next.b .nil pass0 (pa_cons (pv 0) (pa_cons (pe_ix ix_list (pe_lst (pa_cons pe_int (pa_cons pe_int pa_nil))) (pe_call D_law_next.ok hr (by rfl) D_law_next.g D_law_next.kp D_law_next.b .nil pass0 (pa_cons (pv 0) (pa_cons pe_int pa_nil))) (fun _ _ => rfl)) pa_nil)))) (pa_cons (pe_op op_add pe_int (pe_call D_law_next.ok hr (by rfl) D_law_next.g D_law_next.kp D_law_next.b .nil pass0 (pa_cons (pv 0) (pa_cons pe_int pa_nil)))) pa_nil))))), ?_⟩
    walk_at "vc"
    refine ⟨by decide, fun p hp => ?_⟩
    walk_at "vc"
    refine ⟨a, b, 2, rfl, hs.new hp, by omega, by omega, fun r H1 r0 r1 hs1 k1 => ?_⟩
    have hp1 : H1 p = some (.lst [.int 9, .int 3]) := k1 p _ (hs.ne_a hp) (hs.ne_b hp) upd_same
    have key : ∃ m : Int, atI [V.int 9, V.int 3] r = some (.int m) ∧ 0 < m ∧ m ≤ 9 := by
      have : r = 0 ∨ r = 1 := by omega
      rcases this with rfl | rfl
      · exact ⟨9, rfl, by omega, by omega⟩
      · exact ⟨3, rfl, by omega, by omega⟩
    obtain ⟨m, em, m0, m1⟩ := key
    walk_at "vc"
    refine ⟨a, b, m, rfl, hs1, by omega, by omega, fun r' H2 r2 r3 hs2 k2 => ?_⟩
    walk_at "vc"
    refine ⟨a, b, 9, rfl, hs2, by omega, by omega, fun r'' H3 r4 r5 hs3 k3 => ?_⟩
    walk_at "vc"
    refine ⟨show 2 ≤ sizeLine by decide, fun t ht => ?_⟩
    exact q _ _ t _ (by omega) (by omega) (by omega) (by omega) upd_same (hs3.ne_a ht) (hs3.ne_b ht) (hs3.new ht) ((Kp.new hp).trans (k1.trans (k2.trans (k3.trans (Kp.new ht)))))


theorem ok_law_worth {f : Addr} {fd : FuncData} (F : Fun K "_law_worth" "_law_worth" s_law_worth f fd) (B : Bl mg) : FnOk P w K mg base CX0 1 f fd ["_law_likes", "_law_scale_here"] (sp_law_worth K) := by
  refine F.ok sc_law_worth (fun vs H Q E h => ?_) (fun cdv A outer s H vs Q E hr h => ?_)
  · first
      | (obtain ⟨_, rfl, _⟩ := h; rfl)
      | (obtain ⟨_, _, rfl, _⟩ := h; rfl)
      | (obtain ⟨_, _, _, rfl, _⟩ := h; rfl)
      | (obtain ⟨_, _, _, _, rfl, _⟩ := h; rfl)
      | (obtain ⟨_, _, _, _, _, rfl, _⟩ := h; rfl)
      | (obtain ⟨_, _, _, _, _, _, rfl, _⟩ := h; rfl)
      | (obtain ⟨_, _, _, _, _, _, _, rfl, _⟩ := h; rfl)
      | (obtain ⟨_, _, _, _, _, _, _, _, rfl, _⟩ := h; rfl)
      | (obtain ⟨_, _, _, _, _, _, _, _, _, rfl, _⟩ := h; rfl)
      | (obtain ⟨_, _, _, _, _, _, _, _, _, _, rfl, _⟩ := h; rfl)
      | (obtain ⟨_, _, _, _, _, _, _, _, _, _, _, rfl, _⟩ := h; rfl)
  · obtain ⟨z, p, g, l, rfl, hT, q⟩ := h
    refine ⟨_, 
  (pss_cons (ps_set (i := 2) sc_law_worth.nd rfl (.inl rfl) pe_int) 
  (pss_cons (ps_for PassesOwn.never rfl (pi_str (pv 0)) (pg_name (i := 3) sc_law_worth.nd rfl (.inl rfl)) 
    (pss_one (ps_set (i := 2) sc_law_worth.nd rfl (.inl rfl) (pe_ifExp (pt_cmpR op_eq (pv 3) pe_str (nomark _)) (pe_op op_add (pv 2) (pe_ix ix_tup (pv 1) pe_int (fun _ _ => rfl))) (pe_op op_sub (pv 2) (pe_ix ix_tup (pv 1) pe_int (fun _ _ => rfl))))))) 
  (pss_one (ps_ret (pv 2))))), ?_⟩
    walk_at "vc"
    refine for_it (walk_str (z := S z)) (fun i σ H' => (∃ y3, σ = [some (.str (S z)), some (.ref p), some (.int (wor g l (z.take i))), y3]) ∧ H' = H) ⟨⟨_, rfl⟩, rfl⟩ (fun _ _ _ _ _ => trivial) ?_ ?_
    · rintro i x σ H1 H2 hi ⟨⟨y3, rfl⟩, rfl⟩ ⟨rfl, c, hc, rfl⟩
      have hi' : i < z.length := hi
      have ec : z[i] = c := by
        have : z[i]? = some c := by simpa [S] using hc
        rw [List.getElem?_eq_getElem hi'] at this
        exact Option.some.inj this
      walk_at "vc"
      have es : decide (V.str (sg c) = V.str (Str.ofString "=")) = decide (c = 61) := by
        by_cases h : c = 61
        · subst h
          rfl
        · rw [decide_eq_false h]
          refine decide_eq_false fun q => h ?_
          have : S [c] = S [61] := V.str.inj q
          have := S_inj this
          exact (List.cons.inj this).1
      refine ite2 (fun e => ?_) (fun e => ?_)
      · walk_at "vc"
        refine ⟨⟨some (.str (sg c)), ?_⟩, rfl⟩
        rw [wor_take g l hi', ec, if_pos (of_decide_eq_true (es ▸ e))]
        rfl
      · walk_at "vc"
        refine ⟨⟨some (.str (sg c)), ?_⟩, rfl⟩
        rw [wor_take g l hi', ec, if_neg (fun h => e (es.trans (decide_eq_true h)))]
        rfl
    · rintro σ H1 ⟨⟨y3, rfl⟩, rfl⟩
      walk_at "vc"
      have e : z.take (S z).cps.size = z := List.take_of_length_le (by show z.length ≤ (S z).length; rw [len_S]; exact Nat.le_refl _)
      rw [e]
      exact q


theorem ok_law_lane {f : Addr} {fd : FuncData} (F : Fun K "_law_lane" "_law_lane" s_law_lane f fd) (B : Bl mg) : FnOk P w K mg base CX0 1 f fd ["_law_one", "_law_other", "_law_shift"] (sp_law_lane K) := by
  refine F.ok sc_law_lane (fun vs H Q E h => ?_) (fun cdv A outer s H vs Q E hr h => ?_)
  · first
      | (obtain ⟨_, rfl, _⟩ := h; rfl)
      | (obtain ⟨_, _, rfl, _⟩ := h; rfl)
      | (obtain ⟨_, _, _, rfl, _⟩ := h; rfl)
      | (obtain ⟨_, _, _, _, rfl, _⟩ := h; rfl)
      | (obtain ⟨_, _, _, _, _, rfl, _⟩ := h; rfl)
      | (obtain ⟨_, _, _, _, _, _, rfl, _⟩ := h; rfl)
      | (obtain ⟨_, _, _, _, _, _, _, rfl, _⟩ := h; rfl)
      | (obtain ⟨_, _, _, _, _, _, _, _, rfl, _⟩ := h; rfl)
      | (obtain ⟨_, _, _, _, _, _, _, _, _, rfl, _⟩ := h; rfl)
      | (obtain ⟨_, _, _, _, _, _, _, _, _, _, rfl, _⟩ := h; rfl)
      | (obtain ⟨_, _, _, _, _, _, _, _, _, _, _, rfl, _⟩ := h; rfl)
  · obtain ⟨o, t, d, rfl, ho, ht, q⟩ := h
    have eo : ((S o).length : Int) = o.length := by rw [len_S]
    have et : ((S t).length : Int) = t.length := by rw [len_S]
    have lo : (S o).length ≤ sizeLine := hp_sz (by rw [len_S]; omega)
    have lt : (S t).length ≤ sizeLine := hp_sz (by rw [len_S]; omega)
    refine ⟨_, 
  (pss_cons (ps_setLc (i := 3) (own := [("_law_p", 5)]) (g := gName 5) rfl sc_law_lane.nd rfl rfl (sw_true rfl rfl rfl (by decide +kernel)) (pi_range1 rfl B.m_range (pa_cons (pe_callB call_len_str (by rfl) B.m_len PySem.boot_len (pa_cons (pv 0) pa_nil)) pa_nil)) (blkOk_by (N := n_law_lane) (sc := defScope s_law_lane) (by decide +kernel)) (fun _ _ _ _ _ => (pg_name (i := 5) sc_law_lane.nd rfl (.inl rfl))) (fun _ _ _ _ _ => pts_one (pt_chain op_le op_lt pe_int (pe_op op_add (pv 5) (pv 2)) (pe_callB call_len_str (by rfl) B.m_len PySem.boot_len (pa_cons (pv 1) pa_nil)))) (fun _ _ _ _ _ => (pv 5))) 
  (pss_cons (ps_set (i := 4) sc_law_lane.nd rfl (.inl rfl) (pe_join pe_str (pe_lc (own := [("_law_p", 5)]) (g := gName 5) (tt := tYes) rfl sc_law_lane.nd (pi_list (pv 3)) (blkOk_by (N := n_law_lane) (sc := defScope s_law_lane) (by decide +kernel)) (fun _ _ _ _ _ => (pg_name (i := 5) sc_law_lane.nd rfl (.inl rfl))) (fun _ _ _ _ _ => pts_nil) (fun _ _ _ _ _ => (pe_ix ix_str pe_str (pe_callTy call_int1 (by rfl) B.m_int (by decide +kernel) (pa_cons (pe_cmpR op_eq (pe_ix ix_str (pv 0) (pv 5) (fun _ _ => rfl)) (pe_ix ix_str (pv 1) (pe_op op_add (pv 5) (pv 2)) (fun _ _ => rfl)) (nomark _)) pa_nil)) (fun _ _ => rfl)))))) 
  (pss_one (ps_ret (pe_tup (pa_cons (pv 4) (pa_cons (pe_ifExp (pt_cmpR (op_neD hr.units) (pv 3) (pe_lst pa_nil) (nomark _)) (pe_ix ix_list (pv 3) pe_int (fun _ _ => rfl)) pe_int) pa_nil))))))), ?_⟩
    walk_at "vc"
    intro D hD
    have en : (((S o).length : Nat) : Int).toNat = o.length := by rw [len_S]; rfl
    refine lc_range (fun i H' => Same H H' ∧ H' D = some (.lst (((List.range i).filter (onl t.length d)).map fun p => V.int (p : Nat)))) ⟨same_upd hD, upd_same⟩ (fun i H' hi h => ?_) (fun H' h => ?_)
    · have hi' : i < o.length := by omega
      have hlen : ((List.range i).filter (onl t.length d)).length ≤ i := by
        have := List.length_filter_le (onl t.length d) (List.range i)
        rw [List.length_range] at this
        exact this
      have yes : onl t.length d i = true → ∃ acc, H' D = some (.lst acc) ∧ acc.length < sizeLine ∧ (Same H (upd H' D (.lst (acc ++ [V.int (i : Nat)]))) ∧ upd H' D (.lst (acc ++ [V.int (i : Nat)])) D = some (.lst (((List.range (i + 1)).filter (onl t.length d)).map fun p => V.int (p : Nat)))) := fun hy => by
        refine ⟨_, h.2, ?_, fun b x e => ?_, ?_⟩
        · rw [List.length_map]
          exact Nat.lt_of_le_of_lt (Nat.le_trans hlen (by omega : i ≤ 1000)) (by decide)
        · rw [upd_ne (ne_of_none e hD)]
          exact h.1 b x e
        · rw [upd_same, List.range_succ, List.filter_append, List.map_append, List.filter_cons, if_pos hy]
          rfl
      have no : onl t.length d i = false → (Same H H' ∧ H' D = some (.lst (((List.range (i + 1)).filter (onl t.length d)).map fun p => V.int (p : Nat)))) := fun hn => by
        refine ⟨h.1, ?_⟩
        rw [List.range_succ, List.filter_append, List.filter_cons, if_neg (by rw [hn]; decide)]
        rw [List.filter_nil, List.append_nil]
        exact h.2
      walk_at "vc"
      refine ⟨rfl, ?_⟩
      walk_at "vc"
      refine ite2 (fun e => ?_) (fun e => ?_)
      · walk_at "vc"
        have e1 := of_decide_eq_true e
        by_cases h2 : 0 + (i : Int) + d < ((S t).length : Int)
        · rw [decide_eq_true h2]
          walk_at "vc"
          have e0 : V.int (0 + (i : Int)) = V.int (i : Nat) := by rw [Int.zero_add]
          rw [e0]
          refine yes ?_
          unfold onl
          rw [decide_eq_true (by omega), decide_eq_true (by omega)]
          rfl
        · rw [decide_eq_false h2]
          walk_at "vc"
          refine no ?_
          unfold onl
          rw [decide_eq_false (p := (i : Int) + d < _) (by omega), Bool.and_false]
      · walk_at "vc"
        refine no ?_
        unfold onl
        have e1 : ¬ (0 ≤ 0 + (i : Int) + d) := fun z => e (decide_eq_true z)
        rw [decide_eq_false (p := 0 ≤ (i : Int) + d) (by omega), Bool.false_and]
    · rw [en] at h
      have hD1 : H' D = some (.lst ((plc o.length t.length d).map fun p => V.int (p : Nat))) := h.2
      have pl : (plc o.length t.length d).length ≤ o.length := by rw [plc_len]; exact lkn_le _ _ _
      walk_at "vc"
      refine ⟨_, rfl, ⟨_, SqL.of hD1⟩, fun E2 hE => ?_⟩
      refine lc_list (K := K) (a := D) (xs := (plc o.length t.length d).map fun p => V.int (p : Nat)) (fun i H2 => Same H' H2 ∧ H2 E2 = some (.lst (((plc o.length t.length d).take i).map fun p => V.str (sg (lk1 o t d p))))) ⟨same_upd hE, upd_same⟩ (fun i H2 _ z => z.1.seq (SqL.of hD1)) (fun i x H2 hx z => ?_) (fun H2 z => ?_)
      · rw [List.getElem?_map] at hx
        have hi : i < (plc o.length t.length d).length := by
          cases e : (plc o.length t.length d)[i]? with
          | none => rw [e] at hx; cases hx
          | some u => exact (List.getElem?_eq_some_iff.mp e).1
        rw [List.getElem?_eq_getElem hi] at hx
        have ex : x = V.int ((plc o.length t.length d)[i] : Nat) := (Option.some.inj hx).symm
        subst ex
        have hmem : (plc o.length t.length d)[i] ∈ plc o.length t.length d := List.getElem_mem hi
        generalize hp : (plc o.length t.length d)[i] = p at hmem
        have hpm := List.mem_filter.mp hmem
        have hp1 : p < o.length := List.mem_range.mp hpm.1
        have hp2 : 0 ≤ (p : Int) + d ∧ (p : Int) + d < t.length := by
          have := hpm.2
          unfold onl at this
          simpa using this
        have hp3 : ((p : Int) + d).toNat < t.length := by omega
        walk_at "vc"
        refine ⟨rfl, ?_⟩
        walk_at "vc"
        refine x_ixS lo (c := o[p]) (atI_nat (List.getElem?_eq_getElem hp1)) ?_
        walk_at "vc"
        refine x_ixS lt (c := t[((p : Int) + d).toNat]) (atI_of hp2.1 (List.getElem?_eq_getElem hp3)) ?_
        walk_at "vc"
        have el : lk1 o t d p = if o[p] = t[((p : Int) + d).toNat] then 61 else 47 := by
          unfold lk1
          rw [List.getElem?_eq_getElem hp1, List.getElem?_eq_getElem hp3]
          simp only [Option.some.injEq]
        have ea : atI ("/=" : Str).cps.toList (if decide (V.str ⟨#[o[p]]⟩ = V.str ⟨#[t[((p : Int) + d).toNat]]⟩) = true then (1 : Int) else 0) = some (lk1 o t d p) := by
          rw [el]
          by_cases hh : o[p] = t[((p : Int) + d).toNat]
          · rw [if_pos hh, hh, decide_eq_true rfl]
            decide +kernel
          · have : ¬ (V.str ⟨#[o[p]]⟩ = V.str ⟨#[t[((p : Int) + d).toNat]]⟩) := fun q => hh (by simpa using q)
            rw [if_neg hh, decide_eq_false this]
            decide +kernel
        refine x_ixS (by decide +kernel) ea ?_
        refine ⟨_, z.2, ?_, fun b u e => ?_, ?_⟩
        · rw [List.length_map, List.length_take]
          exact Nat.lt_of_le_of_lt (by omega : _ ≤ 1000) (by decide)
        · rw [upd_ne (ne_of_none e hE)]
          exact z.1 b u e
        · rw [upd_same, List.take_succ_eq_append_getElem hi, List.map_append, hp]
          rfl
      · rw [List.length_map, List.take_of_length_le (Nat.le_refl _)] at z
        have z2 : H2 E2 = some (.lst ((likL o t d).map fun c => V.str (sg c))) := by
          rw [z.2]
          unfold likL
          rw [List.map_map]
          rfl
        refine x_join (ys := (likL o t d).map sg) (SqL.of (by rw [lst_map_signs]; exact z2)) (by have e := signs_len (likL o t d); have := likL_le o t d; show ((List.map sg (likL o t d)).map (·.length)).sum + ((likL o t d).map sg).length * ("" : Str).length ≤ _; omega) ?_
        rw [show Txt.join (Str.ofString "") ((likL o t d).map sg) = S (likL o t d) from join_signs _]
        walk_at "vc"
        refine ⟨by decide, fun p3 hp3 => ?_⟩
        have hD3 : H2 D = some (.lst ((plc o.length t.length d).map fun p => V.int (p : Nat))) := z.1 _ _ hD1
        have sm3 : Same H2 (upd H2 p3 (.lst [])) := same_upd hp3
        have hD4 := sm3 _ _ hD3
        have hp4 : upd H2 p3 (.lst []) p3 = some (.lst []) := upd_same
        have emap : ((plc o.length t.length d).map fun p => V.int (p : Nat)) = ((plc o.length t.length d).map fun p => ((p : Nat) : Int)).map V.int := by rw [List.map_map]; rfl
        refine ⟨.list (((plc o.length t.length d).map fun p => ((p : Nat) : Int)).map PyData.int), .list [], .lst (SqL.of (emap ▸ hD4)) (dp_ints _), .lst (SqL.of hp4) .nil, shaped_ints _, by decide +kernel, ?_⟩
        rw [eqv_ints_nil]
        generalize upd H2 p3 (.lst []) = H5 at sm3 hD4 hp4
        walk_at "vc"
        have fin : ∀ f : Nat, f = (plc o.length t.length d)[0]?.getD 0 → ∀ p6, H5 p6 = none → Q (.ref p6) (upd H5 p6 (.tup [.str (S (likL o t d)), .int (f : Nat)])) := fun f hf p6 hp6 => by
          refine q p6 _ (h.1.trans (z.1.trans (sm3.trans (same_upd hp6)))) ?_
          rw [upd_same, hf]
        cases hpl : plc o.length t.length d with
        | nil =>
          refine iteF ?_
          walk_at "vc"
          refine ⟨show 2 ≤ sizeLine by decide, fun p6 hp6 => ?_⟩
          rw [hpl] at fin
          exact fin 0 rfl p6 hp6
        | cons u us =>
          refine iteT ?_
          rw [hpl] at hD4 fin
          walk_at "vc"
          refine x_ixL (v := V.int (u : Nat)) (SqL.of hD4) (atI_nat (j := 0) rfl) ?_
          walk_at "vc"
          refine ⟨show 2 ≤ sizeLine by decide, fun p6 hp6 => ?_⟩
          exact fin u rfl p6 hp6


theorem same_step {f : Addr} {fd : FuncData} (F : Fun K "_law_same" "_law_same" s_law_same f fd) (B : Bl mg) (n : Nat) (DD : Dn P w K mg base "_law_same" n ["_law_found", "_law_due"] (sp_sameN n K) f fd) : FnOk P w K mg base CX0 (n + 1) f fd ["_law_found", "_law_due"] (sp_sameN (n + 1) K) := by
  refine F.ok sc_law_same (fun vs H Q E h => ?_) (fun cdv A outer s H vs Q E hr h => ?_)
  · obtain ⟨_, _, _, rfl, _⟩ := h
    rfl
  · obtain ⟨x, y, d, rfl, hx, hy, gd, hdep, q⟩ := h
    refine ⟨_, 
  (pss_cons (ps_if (pt_val (pe_callB call_isiT (by rfl) B.m_isinstance (by decide +kernel) (pa_cons (pv 1) (pa_cons (pe_tup (pa_cons (pe_bltn (v := .ty "list") (by rfl) B.m_list (by decide +kernel) rfl) (pa_cons (pe_bltn (v := .ty "tuple") (by rfl) B.m_tuple (by decide +kernel) rfl) pa_nil))) pa_nil)))) 
    (pss_cons (ps_if (PW.pt (pw_or (pt_cmpR op_ne (pe_callB call_isi (by rfl) B.m_isinstance (by decide +kernel) (pa_cons (pv 0) (pa_cons (pe_bltn (v := .ty "list") (by rfl) B.m_list (by decide +kernel) rfl) pa_nil))) (pe_callB call_isi (by rfl) B.m_isinstance (by decide +kernel) (pa_cons (pv 1) (pa_cons (pe_bltn (v := .ty "list") (by rfl) B.m_list (by decide +kernel) rfl) pa_nil))) (nomark _)) (pw_or1 (pt_cmpR op_ne (pe_callB call_isi (by rfl) B.m_isinstance (by decide +kernel) (pa_cons (pv 0) (pa_cons (pe_bltn (v := .ty "tuple") (by rfl) B.m_tuple (by decide +kernel) rfl) pa_nil))) (pe_callB call_isi (by rfl) B.m_isinstance (by decide +kernel) (pa_cons (pv 1) (pa_cons (pe_bltn (v := .ty "tuple") (by rfl) B.m_tuple (by decide +kernel) rfl) pa_nil))) (nomark _))))) 
      (pss_one (ps_ret pe_bl)) pss_nil) 
    (pss_cons (ps_if (pt_cmpR op_ne (pe_callB call_len_seq (by rfl) B.m_len PySem.boot_len (pa_cons (pv 0) pa_nil)) (pe_callB call_len_seq (by rfl) B.m_len PySem.boot_len (pa_cons (pv 1) pa_nil)) (nomark _)) 
      (pss_one (ps_ret pe_bl)) pss_nil) 
    (pss_cons (ps_for PassesOwn.never rfl (pi_range1 rfl B.m_range (pa_cons (pe_callB call_len_seq (by rfl) B.m_len PySem.boot_len (pa_cons (pv 1) pa_nil)) pa_nil)) (pg_name (i := 2) sc_law_same.nd rfl (.inl rfl)) 
      (pss_one (ps_if (pt_not (pt_val (pe_call DD.ok hr (by rfl) DD.g DD.kp DD.b .nil pass0 (pa_cons (pe_ix ix_seq (pv 0) (pv 2) (fun _ _ => rfl)) (pa_cons (pe_ix ix_seq (pv 1) (pv 2) (fun _ _ => rfl)) pa_nil))))) 
        (pss_one (ps_ret pe_bl)) pss_nil))) 
    (pss_one (ps_ret pe_bl))))) pss_nil) 
  (pss_cons (ps_if (pt_val (pe_callB call_isi (by rfl) B.m_isinstance (by decide +kernel) (pa_cons (pv 1) (pa_cons (pe_bltn (v := .ty "str") (by rfl) B.m_str (by decide +kernel) rfl) pa_nil)))) 
    (pss_one (ps_ret (pe_and (pe_callB call_isi (by rfl) B.m_isinstance (by decide +kernel) (pa_cons (pv 0) (pa_cons (pe_bltn (v := .ty "str") (by rfl) B.m_str (by decide +kernel) rfl) pa_nil))) (pe_one (pe_cmpR op_eq (pv 0) (pv 1) (nomark _)))))) pss_nil) 
  (pss_one (ps_ret (pe_and (pe_callB call_isi (by rfl) B.m_isinstance (by decide +kernel) (pa_cons (pv 0) (pa_cons (pe_bltn (v := .ty "int") (by rfl) B.m_int (by decide +kernel) rfl) pa_nil))) (pe_and (pe_cmpR op_eq (pe_callB call_isi (by rfl) B.m_isinstance (by decide +kernel) (pa_cons (pv 0) (pa_cons (pe_bltn (v := .ty "bool") (by rfl) B.m_bool (by decide +kernel) rfl) pa_nil))) (pe_callB call_isi (by rfl) B.m_isinstance (by decide +kernel) (pa_cons (pv 1) (pa_cons (pe_bltn (v := .ty "bool") (by rfl) B.m_bool (by decide +kernel) rfl) pa_nil))) (nomark _)) (pe_one (pe_cmpR op_eq (pv 0) (pv 1) (nomark _))))))))), ?_⟩
    walk_at "vc"
    refine ⟨show 2 ≤ sizeLine by decide, fun p hp => ?_⟩
    have sm0 := same_upd (o := HO.tup [V.ty "list", V.ty "tuple"]) hp
    have hp1 : upd H p (HO.tup [V.ty "list", V.ty "tuple"]) p = some (HO.tup [V.ty "list", V.ty "tuple"]) := upd_same
    generalize upd H p (HO.tup [V.ty "list", V.ty "tuple"]) = H1 at sm0 hp1
    have hx1 := Dp_same sm0 d x hx
    have hy1 := Dp_same sm0 d y hy
    have tx := dp_ty hx1
    have ty := dp_ty hy1
    rcases seq_view hx1 hy1 gd with ⟨i, rfl, rfl, et⟩ | ⟨z, rfl, rfl, et⟩ | ⟨b, rfl, rfl, et⟩ | ⟨ds, px, py, xs, ys, b1, b2, rfl, rfl, sx, sy, ax, ay, hlen, hgd, hd, k1, k2, kb⟩
    · rw [et] at tx ty
      walk_at "vc"
      refine x_isiLT (b := false) hp1 ty (kit_lt (kit_ty (r := false) (by decide +kernel)) (kit_ty (r := false) (by decide +kernel))) ?_
      walk_at "vc"
      walk_at "vc"
      refine x_isi (n := "str") ty (kit_ty (r := false) (by decide +kernel)) ?_
      walk_at "vc"
      walk_at "vc"
      refine x_isi (n := "int") tx (kit_ty (r := true) (by decide +kernel)) ?_
      walk_at "vc"
      walk_at "vc"
      refine x_isi (n := "bool") tx (kit_ty (r := false) (by decide +kernel)) ?_
      walk_at "vc"
      refine x_isi (n := "bool") ty (kit_ty (r := false) (by decide +kernel)) ?_
      walk_at "vc"
      rw [decide_eq_true rfl]
      walk_at "vc"
      rw [decide_eq_true rfl]
      exact q _ sm0
    · rw [et] at tx ty
      walk_at "vc"
      refine x_isiLT (b := false) hp1 ty (kit_lt (kit_ty (r := false) (by decide +kernel)) (kit_ty (r := false) (by decide +kernel))) ?_
      walk_at "vc"
      walk_at "vc"
      refine x_isi (n := "str") ty (kit_ty (r := true) (by decide +kernel)) ?_
      walk_at "vc"
      walk_at "vc"
      refine x_isi (n := "str") tx (kit_ty (r := true) (by decide +kernel)) ?_
      walk_at "vc"
      rw [decide_eq_true rfl]
      exact q _ sm0
    · rw [et] at tx ty
      walk_at "vc"
      refine x_isiLT (b := false) hp1 ty (kit_lt (kit_ty (r := false) (by decide +kernel)) (kit_ty (r := false) (by decide +kernel))) ?_
      walk_at "vc"
      walk_at "vc"
      refine x_isi (n := "str") ty (kit_ty (r := false) (by decide +kernel)) ?_
      walk_at "vc"
      walk_at "vc"
      refine x_isi (n := "int") tx (kit_ty (r := true) (by decide +kernel)) ?_
      walk_at "vc"
      walk_at "vc"
      refine x_isi (n := "bool") tx (kit_ty (r := true) (by decide +kernel)) ?_
      walk_at "vc"
      refine x_isi (n := "bool") ty (kit_ty (r := true) (by decide +kernel)) ?_
      walk_at "vc"
      rw [decide_eq_true rfl]
      walk_at "vc"
      rw [decide_eq_true rfl]
      exact q _ sm0
    · walk_at "vc"
      refine x_isiLT hp1 ty (kit_lt k1 k2) ?_
      rw [kb]
      walk_at "vc"
      walk_at "vc"
      refine x_isi tx k1 ?_
      walk_at "vc"
      refine x_isi ty k1 ?_
      walk_at "vc"
      rw [decide_eq_true rfl]
      walk_at "vc"
      walk_at "vc"
      refine x_isi tx k2 ?_
      walk_at "vc"
      refine x_isi ty k2 ?_
      walk_at "vc"
      rw [decide_eq_true rfl]
      walk_at "vc"
      have lx := DpAll_len ax
      have ly := DpAll_len ay
      rw [lx, ly, decide_eq_true rfl]
      walk_at "vc"
      have en : ((ds.length : Nat) : Int).toNat = ds.length := rfl
      rw [ly, en]
      refine for_range (fun i σ H' => (∃ y3, σ = [some (.ref px), some (.ref py), y3]) ∧ Same H1 H') ⟨⟨_, rfl⟩, Same.refl _⟩ ?_ ?_
      · rintro i σ H2 hi ⟨⟨y3, rfl⟩, sm⟩
        obtain ⟨vx, d1, ex, ed1, dx⟩ := DpAll_get i ax hi
        obtain ⟨vy, d2, ey, ed2, dy⟩ := DpAll_get i ay hi
        have e12 : d1 = d2 := Option.some.inj (ed1.symm.trans ed2)
        subst e12
        have hm : d1 ∈ ds := List.mem_of_getElem? ed1
        walk_at "vc"
        have e0 : 0 + (i : Int) = ((i : Nat) : Int) := Int.zero_add _
        rw [e0]
        refine x_ixQ (Sq_same sm sx) (atI_nat ex) ?_
        walk_at "vc"
        refine x_ixQ (Sq_same sm sy) (atI_nat ey) ?_
        walk_at "vc"
        refine ⟨vx, vy, d1, rfl, Dp_same sm _ _ dx, Dp_same sm _ _ dy, hgd d1 hm, by have := depth_mem hm; omega, fun H3 sm3 => ?_⟩
        walk_at "vc"
        exact ⟨⟨_, rfl⟩, sm.trans sm3⟩
      · rintro σ H2 ⟨⟨y3, rfl⟩, sm⟩
        walk_at "vc"
        exact q _ (sm0.trans sm)
theorem ok_law_same {f : Addr} {fd : FuncData} (F : Fun K "_law_same" "_law_same" s_law_same f fd) (B : Bl mg) (g : mg "_law_same" = some (.ref f)) (b : Binds K fd ["_law_found", "_law_due"] []) : FnOk P w K mg base CX0 12 f fd ["_law_found", "_law_due"] (sp_law_same K) := by
  have h : ∀ n, FnOk P w K mg base CX0 n f fd ["_law_found", "_law_due"] (sp_sameN n K) := by
    intro n
    induction n with
    | zero => exact fn_never fun vs H Q E ⟨_, _, _, _, _, _, _, h, _⟩ => by omega
    | succ n ih => exact same_step F B n ⟨ih, g, F.kp, b⟩
  exact h 12


theorem oklaw {f : Addr} {fd : FuncData} {f_law_letters : Addr} {fd_law_letters : FuncData} {f_law_scale : Addr} {fd_law_scale : FuncData} {f_law_row : Addr} {fd_law_row : FuncData} {f_law_next : Addr} {fd_law_next : FuncData} {f_law_lane : Addr} {fd_law_lane : FuncData} {f_law_same : Addr} {fd_law_same : FuncData} {f_law_near : Addr} {fd_law_near : FuncData} {fworth_of : Addr} {fdworth_of : FuncData} {flikes_of : Addr} {fdlikes_of : FuncData} {f_law_worth : Addr} {fd_law_worth : FuncData} (F : Fun K "law" "law" slaw f fd) (B : Bl mg) (D_law_letters : Dn P w K mg base "_law_letters" 2 ["_law_h"] (sp_law_letters K) f_law_letters fd_law_letters) (D_law_scale : Dn P w K mg base "_law_scale" 2 ["_law_h"] (sp_law_scale K) f_law_scale fd_law_scale) (D_law_row : Dn P w K mg base "_law_row" 2 ["_law_h", "_law_letters_here", "_law_most"] (sp_law_row K) f_law_row fd_law_row) (D_law_next : Dn P w K mg base "_law_next" 1 ["_law_h", "_law_many"] (sp_law_next K) f_law_next fd_law_next) (D_law_lane : Dn P w K mg base "_law_lane" 1 ["_law_one", "_law_other", "_law_shift"] (sp_law_lane K) f_law_lane fd_law_lane) (D_law_same : Dn P w K mg base "_law_same" 12 ["_law_found", "_law_due"] (sp_law_same K) f_law_same fd_law_same) (D_law_near : Dn P w K mg base "_law_near" 3 ["_law_h", "_law_row_here", "_law_letters_here"] (sp_law_near K) f_law_near fd_law_near) (Dworth_of : Dn P w K mg base "worth_of" 1 ["likes", "scale"] (spworth_of K) fworth_of fdworth_of) (Dlikes_of : Dn P w K mg base "likes_of" 2 ["one", "other", "shift"] (splikes_of K) flikes_of fdlikes_of) (D_law_worth : Dn P w K mg base "_law_worth" 1 ["_law_likes", "_law_scale_here"] (sp_law_worth K) f_law_worth fd_law_worth) : FnOk P w K mg base CX0 13 f fd ["_law_script"] (splaw K) := by
  refine F.ok sclaw (fun vs H Q E h => ?_) (fun cdv A outer s H vs Q E hr h => ?_)
  · first
      | (obtain ⟨_, rfl, _⟩ := h; rfl)
      | (obtain ⟨_, _, rfl, _⟩ := h; rfl)
      | (obtain ⟨_, _, _, rfl, _⟩ := h; rfl)
      | (obtain ⟨_, _, _, _, rfl, _⟩ := h; rfl)
      | (obtain ⟨_, _, _, _, _, rfl, _⟩ := h; rfl)
      | (obtain ⟨_, _, _, _, _, _, rfl, _⟩ := h; rfl)
      | (obtain ⟨_, _, _, _, _, _, _, rfl, _⟩ := h; rfl)
      | (obtain ⟨_, _, _, _, _, _, _, _, rfl, _⟩ := h; rfl)
      | (obtain ⟨_, _, _, _, _, _, _, _, _, rfl, _⟩ := h; rfl)
      | (obtain ⟨_, _, _, _, _, _, _, _, _, _, rfl, _⟩ := h; rfl)
      | (obtain ⟨_, _, _, _, _, _, _, _, _, _, _, rfl, _⟩ := h; rfl)
  · obtain ⟨a0, ns, rfl, hS, hlen, q⟩ := h
    refine ⟨_, 
  (pss_cons (ps_set (i := 1) sclaw.nd rfl (.inl rfl) (pe_lst (pa_cons pe_int (pa_cons (pe_callTy call_list_of (by rfl) B.m_list (by decide +kernel) (pa_cons (pv 0) pa_nil)) (pa_cons pe_int pa_nil))))) 
  (pss_cons (ps_set (i := 2) sclaw.nd rfl (.inl rfl) (pe_call D_law_letters.ok (hr.mono (by decide)) (by rfl) D_law_letters.g D_law_letters.kp D_law_letters.b .nil pass0 (pa_cons (pv 1) pa_nil))) 
  (pss_cons (ps_set (i := 3) sclaw.nd rfl (.inl rfl) (pe_call D_law_scale.ok (hr.mono (by decide)) (by rfl) D_law_scale.g D_law_scale.kp D_law_scale.b .nil pass0 (pa_cons (pv 1) pa_nil))) 
  (pss_cons (ps_set (i := 4) sclaw.nd rfl (.inl rfl) (pe_call D_law_row.ok (hr.mono (by decide)) (by rfl) D_law_row.g D_law_row.kp D_law_row.b .nil pass0 (pa_cons (pv 1) (pa_cons (pv 2) (pa_cons pe_int pa_nil))))) 
  (pss_cons (ps_set (i := 5) sclaw.nd rfl (.inl rfl) (pe_ix ix_list (pe_lst (pa_cons (pe_call D_law_row.ok (hr.mono (by decide)) (by rfl) D_law_row.g D_law_row.kp D_law_row.b .nil pass0 (pa_cons (pv 1) (pa_cons (pv 2) (pa_cons pe_int pa_nil)))) (pa_cons (pe_call D_law_near.ok (hr.mono (by decide)) (by rfl) D_law_near.g D_law_near.kp D_law_near.b .nil pass0 (pa_cons (pv 1) (pa_cons (pv 4) (pa_cons (pv 2) pa_nil)))) pa_nil))) (pe_call D_law_next.ok (hr.mono (by decide)) (by rfl) D_law_next.g D_law_next.kp D_law_next.b .nil pass0 (pa_cons (pv 1) (pa_cons pe_int pa_nil))) (fun _ _ => rfl))) 
  (pss_cons (ps_for PassesOwn.never rfl (pi_range1 rfl B.m_range (pa_cons pe_int pa_nil)) (pg_name (i := 6) sclaw.nd rfl (.inl rfl)) 
    (pss_cons (ps_set (i := 7) sclaw.nd rfl (.inl rfl) (pe_ifExp (pt_cmpR op_lt (pv 6) pe_int (nomark _)) (pe_op op_sub (pe_call D_law_next.ok (hr.mono (by decide)) (by rfl) D_law_next.g D_law_next.kp D_law_next.b .nil pass0 (pa_cons (pv 1) (pa_cons pe_int pa_nil))) pe_int) (pe_op op_sub (pe_call D_law_next.ok (hr.mono (by decide)) (by rfl) D_law_next.g D_law_next.kp D_law_next.b .nil pass0 (pa_cons (pv 1) (pa_cons pe_int pa_nil))) pe_int))) 
    (pss_cons (ps_asg (pe_call D_law_lane.ok (hr.mono (by decide)) (by rfl) D_law_lane.g D_law_lane.kp D_law_lane.b .nil pass0 (pa_cons (pv 4) (pa_cons (pv 5) (pa_cons (pv 7) pa_nil)))) (pg_tup rfl (pgs_cons (pg_name (i := 8) sclaw.nd rfl (.inl rfl)) (pgs_cons (pg_name (i := 9) sclaw.nd rfl (.inl rfl)) pgs_nil)))) 
    (pss_cons (ps_if (pt_not (pt_val (pe_call D_law_same.ok hr (by rfl) D_law_same.g D_law_same.kp D_law_same.b .nil pass0 (pa_cons (pe_call Dlikes_of.ok (hr.mono (by decide)) (by rfl) Dlikes_of.g Dlikes_of.kp Dlikes_of.b .nil pass0 (pa_cons (pv 4) (pa_cons (pv 5) (pa_cons (pv 7) pa_nil)))) (pa_cons (pv 8) pa_nil))))) 
      (pss_one (ps_ret pe_bl)) pss_nil) 
    (pss_cons (ps_set (i := 10) sclaw.nd rfl (.inl rfl) (pe_call D_law_next.ok (hr.mono (by decide)) (by rfl) D_law_next.g D_law_next.kp D_law_next.b .nil pass0 (pa_cons (pv 1) (pa_cons (pe_op op_add (pe_callB call_len_str (by rfl) B.m_len PySem.boot_len (pa_cons (pv 8) pa_nil)) pe_int) pa_nil)))) 
    (pss_one (ps_if (pt_not (pt_val (pe_call D_law_same.ok hr (by rfl) D_law_same.g D_law_same.kp D_law_same.b .nil pass0 (pa_cons (pe_call Dworth_of.ok (hr.mono (by decide)) (by rfl) Dworth_of.g Dworth_of.kp Dworth_of.b .nil pass0 (pa_cons (pe_slice sl_str (pv 8) (po_some (pv 10)) po_none) (pa_cons (pv 3) pa_nil))) (pa_cons (pe_call D_law_worth.ok (hr.mono (by decide)) (by rfl) D_law_worth.g D_law_worth.kp D_law_worth.b .nil pass0 (pa_cons (pe_slice sl_str (pv 8) (po_some (pv 10)) po_none) (pa_cons (pv 3) pa_nil))) pa_nil))))) 
      (pss_one (ps_ret pe_bl)) pss_nil))))))) 
  (pss_one (ps_ret (pe_and (pe_call D_law_same.ok hr (by rfl) D_law_same.g D_law_same.kp D_law_same.b .nil pass0 (pa_cons (pe_call Dworth_of.ok (hr.mono (by decide)) (by rfl) Dworth_of.g Dworth_of.kp Dworth_of.b .nil pass0 (pa_cons pe_str (pa_cons (pv 3) pa_nil))) (pa_cons pe_int pa_nil))) (pe_one (pe_call D_law_same.ok hr (by rfl) D_law_same.g D_law_same.kp D_law_same.b .nil pass0 (pa_cons (pe_call Dlikes_of.ok (hr.mono (by decide)) (by rfl) Dlikes_of.g Dlikes_of.kp Dlikes_of.b .nil pass0 (pa_cons pe_str (pa_cons (pv 4) (pa_cons pe_int pa_nil)))) (pa_cons pe_str pa_nil))))))))))))), ?_⟩
    walk_at "vc"
    intro b hb
    walk_at "vc"
    refine ⟨show 3 ≤ sizeLine by decide, fun a ha => ?_⟩
    have nab : a ≠ b := fun e => by
      rw [e, upd_same] at ha
      cases ha
    have hs0 : Src (upd (upd H b (.lst (ns.map V.int))) a (.lst [.int 11, .ref b, .int 0])) a b := ⟨nab, 11, 0, ns, upd_same, by rw [upd_ne nab.symm, upd_same], hlen⟩
    generalize upd (upd H b (.lst (ns.map V.int))) a (.lst [.int 11, .ref b, .int 0]) = H0 at hs0
    walk_at "vc"
    refine ⟨a, b, rfl, hs0, fun t n H1 ht hn1 hn2 hs1 k1 => ?_⟩
    walk_at "vc"
    refine ⟨a, b, rfl, hs1, fun g l ps H2 hg1 hg2 hl1 hl2 hps npa npb hs2 k2 => ?_⟩
    walk_at "vc"
    have hn : (letL t n).length = n := letL_len t n
    refine ⟨a, b, letL t n, 60, rfl, hs2, by omega, by omega, by omega, by omega, fun o H3 ho hol hs3 k3 => ?_⟩
    walk_at "vc"
    refine ⟨a, b, letL t n, 60, rfl, hs3, by omega, by omega, by omega, by omega, fun o2 H4 ho2 hol2 hs4 k4 => ?_⟩
    walk_at "vc"
    refine ⟨a, b, o, letL t n, rfl, hs4, by omega, by omega, by omega, hol, fun o3 H5 ho3 hol3 hs5 k5 => ?_⟩
    walk_at "vc"
    refine ⟨show 2 ≤ sizeLine by decide, fun p5 hp5 => ?_⟩
    walk_at "vc"
    refine ⟨a, b, 2, rfl, hs5.new hp5, by omega, by omega, fun r H6 r0 r1 hs6 k6 => ?_⟩
    have hp6 : H6 p5 = some (.lst [.str (S o2), .str (S o3)]) := k6 p5 _ (hs5.ne_a hp5) (hs5.ne_b hp5) upd_same
    have key : ∃ ot : List Nat, atI [V.str (S o2), V.str (S o3)] r = some (.str (S ot)) ∧ ot.length ≤ 60 := by
      have : r = 0 ∨ r = 1 := by omega
      rcases this with rfl | rfl
      · exact ⟨o2, rfl, by omega⟩
      · exact ⟨o3, rfl, by omega⟩
    obtain ⟨ot, eot, hot⟩ := key
    have hps6 : H6 ps = some (.tup [.int g, .int l]) := k6 ps _ npa npb (by
      have h5 := k5 ps _ npa npb (k4 ps _ npa npb (k3 ps _ npa npb hps))
      rw [upd_ne (ne_of_none h5 hp5)]
      exact h5)
    walk_at "vc"
    refine for_range (fun i σ H' => (∃ y6 y7 y8 y9 y10, σ = [some (.ref a0), some (.ref a), some (.str (S (letL t n))), some (.ref ps), some (.str (S o)), some (.str (S ot)), y6, y7, y8, y9, y10]) ∧ Src H' a b ∧ H' ps = some (.tup [.int g, .int l])) ⟨⟨_, _, _, _, _, rfl⟩, hs6, hps6⟩ ?_ ?_
    · rintro i σ H7 hi ⟨⟨y6, y7, y8, y9, y10, rfl⟩, hs7, hps7⟩
      walk_at "vc0"
      refine x_cutE (fun v H' => ∃ d : Int, v = .int d ∧ -1000 ≤ d ∧ d ≤ 1000 ∧ Src H' a b ∧ Kp a b H7 H') (fun Q' hQ' => ?_) ?_
      · walk_at "vc"
        refine ite2 (fun e => ?_) (fun e => ?_)
        · walk_at "vc"
          refine ⟨a, b, 141, rfl, hs7, by omega, by omega, fun r1 H8 _ _ hs8 k8 => ?_⟩
          walk_at "vc"
          exact hQ' _ _ ⟨_, rfl, by omega, by omega, hs8, k8⟩
        · walk_at "vc"
          refine ⟨a, b, 15, rfl, hs7, by omega, by omega, fun r1 H8 _ _ hs8 k8 => ?_⟩
          walk_at "vc"
          exact hQ' _ _ ⟨_, rfl, by omega, by omega, hs8, k8⟩
      rintro _ H8 ⟨d, rfl, hd1, hd2, hs8, k8⟩
      have hps8 := k8 ps _ npa npb hps7
      walk_at "vc"
      refine ⟨o, ot, d, rfl, by omega, by omega, fun p9 H9 sm9 hp9 => ?_⟩
      have hs9 : Src H9 a b := Src_same hs8 sm9
      have hps9 := sm9 _ _ hps8
      walk_at "vc"
      refine ⟨o, ot, d, rfl, by omega, by omega, by omega, by omega, fun H10 sm10 => ?_⟩
      walk_at "vc"
      refine ⟨_, _, .str (S (likL o ot d)), rfl, .str _, .str _, .str _, by simp only [PyData.depth]; omega, fun H11 sm11 => ?_⟩
      have hs11 : Src H11 a b := Src_same hs9 (sm10.trans sm11)
      have hps11 := sm11 _ _ (sm10 _ _ hps9)
      have hlk : (S (likL o ot d)).length ≤ 60 := by rw [len_S]; have := likL_le o ot d; omega
      walk_at "vc"
      refine ⟨a, b, ((S (likL o ot d)).length : Int) + 1, rfl, hs11, by omega, by omega, fun at_ H12 at0 at1 hs12 k12 => ?_⟩
      have hps12 := k12 ps _ npa npb hps11
      have ecut : cutS (S (likL o ot d)) (some at_) none = S ((likL o ot d).drop at_.toNat) := by
        have e : at_ = ((at_.toNat : Nat) : Int) := by omega
        rw [e]
        exact cutS_drop _ _
      walk_at "vc"
      refine x_slS (hp_sz (by omega)) ?_
      rw [ecut]
      walk_at "vc"
      have hLk : Lk ((likL o ot d).drop at_.toNat) := fun c hc => likL_Lk o ot d c (List.mem_of_mem_drop hc)
      refine ⟨_, ps, g, l, rfl, SqT.of hps12, hLk, by omega, by omega, by omega, by omega, ?_⟩
      walk_at "vc"
      refine x_slS (hp_sz (by omega)) ?_
      rw [ecut]
      walk_at "vc"
      refine ⟨_, ps, g, l, rfl, SqT.of hps12, ?_⟩
      walk_at "vc"
      refine ⟨_, _, .int _, rfl, .int _, .int _, .int _, by simp only [PyData.depth]; omega, fun H13 sm13 => ?_⟩
      walk_at "vc"
      exact ⟨⟨_, _, _, _, _, rfl⟩, Src_same hs12 sm13, sm13 _ _ hps12⟩
    · rintro σ H7 ⟨⟨y6, y7, y8, y9, y10, rfl⟩, hs7, hps7⟩
      walk_at "vc"
      refine ⟨[], ps, g, l, rfl, SqT.of hps7, (fun c hc => nomatch hc), by omega, by omega, by omega, by omega, ?_⟩
      walk_at "vc"
      refine ⟨_, _, .int 0, rfl, .int _, .int _, .int _, by simp only [PyData.depth]; omega, fun H8 sm8 => ?_⟩
      walk_at "vc"
      refine ⟨[], o, 0, rfl, by decide, by omega, by omega, by omega, fun H9 sm9 => ?_⟩
      have e0 : likL [] o 0 = [] := rfl
      rw [e0]
      walk_at "vc"
      refine ⟨_, _, .str (S []), rfl, .str _, .str _, .str _, by simp only [PyData.depth]; omega, fun H10 sm10 => ?_⟩
      exact q H10

end
theorem all_mk {l : PySem.W.OpenLaw} {w : World} {K : PySem.W.Frag} {h : Heap} {mg : Str → Option Value} {fa : Addr} (X : K.In h) (G : h.Ns mainGlobals mg) (hfa : mg "law" = some (.ref fa))
    {od0 an0 : Option Addr} {sl0 : Array (Option Value)} {oc0 kV0 dc0 pm0 cd0 ct0 : Value} {g0 : Addr} {od1 an1 : Option Addr} {sl1 : Array (Option Value)} {oc1 kV1 dc1 pm1 cd1 ct1 : Value} {g1 : Addr} {od2 an2 : Option Addr} {sl2 : Array (Option Value)} {oc2 kV2 dc2 pm2 cd2 ct2 : Value} {g2 : Addr} {od3 an3 : Option Addr} {sl3 : Array (Option Value)} {oc3 kV3 dc3 pm3 cd3 ct3 : Value} {g3 : Addr} {od4 an4 : Option Addr} {sl4 : Array (Option Value)} {oc4 kV4 dc4 pm4 cd4 ct4 : Value} {g4 : Addr} {od5 an5 : Option Addr} {sl5 : Array (Option Value)} {oc5 kV5 dc5 pm5 cd5 ct5 : Value} {g5 : Addr} {od6 an6 : Option Addr} {sl6 : Array (Option Value)} {oc6 kV6 dc6 pm6 cd6 ct6 : Value} {g6 : Addr} {od7 an7 : Option Addr} {sl7 : Array (Option Value)} {oc7 kV7 dc7 pm7 cd7 ct7 : Value} {g7 : Addr} {od8 an8 : Option Addr} {sl8 : Array (Option Value)} {oc8 kV8 dc8 pm8 cd8 ct8 : Value} {g8 : Addr} {od9 an9 : Option Addr} {sl9 : Array (Option Value)} {oc9 kV9 dc9 pm9 cd9 ct9 : Value} {g9 : Addr} {od10 an10 : Option Addr} {sl10 : Array (Option Value)} {oc10 kV10 dc10 pm10 cd10 ct10 : Value} {g10 : Addr} {od11 an11 : Option Addr} {sl11 : Array (Option Value)} {oc11 kV11 dc11 pm11 cd11 ct11 : Value} {g11 : Addr} {t_LIKE : Tok} {t_UNLIKE : Tok}
    (a0 : PySem.W.nsIn K mainGlobals "lane_begin" = some (some (.ref g0))) (l0 : K.lookup g0 = some ⟨oc0, od0, .func (PySem.W.fnOf "lane_begin" "lane_begin" (defArgs slane_begin) (defBody slane_begin) (defScope slane_begin) .none kV0 dc0 pm0 an0 cd0 ct0), sl0⟩) (c0 : PySem.W.codeIn K cd0 "lane_begin" = true) (k0 : PySem.W.keepIn K (.ref g0) = true) (a1 : PySem.W.nsIn K mainGlobals "likes_of" = some (some (.ref g1))) (l1 : K.lookup g1 = some ⟨oc1, od1, .func (PySem.W.fnOf "likes_of" "likes_of" (defArgs slikes_of) (defBody slikes_of) (defScope slikes_of) .none kV1 dc1 pm1 an1 cd1 ct1), sl1⟩) (c1 : PySem.W.codeIn K cd1 "likes_of" = true) (k1 : PySem.W.keepIn K (.ref g1) = true) (a2 : PySem.W.nsIn K mainGlobals "worth_of" = some (some (.ref g2))) (l2 : K.lookup g2 = some ⟨oc2, od2, .func (PySem.W.fnOf "worth_of" "worth_of" (defArgs sworth_of) (defBody sworth_of) (defScope sworth_of) .none kV2 dc2 pm2 an2 cd2 ct2), sl2⟩) (c2 : PySem.W.codeIn K cd2 "worth_of" = true) (k2 : PySem.W.keepIn K (.ref g2) = true) (a3 : PySem.W.nsIn K mainGlobals "_law_next" = some (some (.ref g3))) (l3 : K.lookup g3 = some ⟨oc3, od3, .func (PySem.W.fnOf "_law_next" "_law_next" (defArgs s_law_next) (defBody s_law_next) (defScope s_law_next) .none kV3 dc3 pm3 an3 cd3 ct3), sl3⟩) (c3 : PySem.W.codeIn K cd3 "_law_next" = true) (k3 : PySem.W.keepIn K (.ref g3) = true) (a4 : PySem.W.nsIn K mainGlobals "_law_letters" = some (some (.ref g4))) (l4 : K.lookup g4 = some ⟨oc4, od4, .func (PySem.W.fnOf "_law_letters" "_law_letters" (defArgs s_law_letters) (defBody s_law_letters) (defScope s_law_letters) .none kV4 dc4 pm4 an4 cd4 ct4), sl4⟩) (c4 : PySem.W.codeIn K cd4 "_law_letters" = true) (k4 : PySem.W.keepIn K (.ref g4) = true) (a5 : PySem.W.nsIn K mainGlobals "_law_row" = some (some (.ref g5))) (l5 : K.lookup g5 = some ⟨oc5, od5, .func (PySem.W.fnOf "_law_row" "_law_row" (defArgs s_law_row) (defBody s_law_row) (defScope s_law_row) .none kV5 dc5 pm5 an5 cd5 ct5), sl5⟩) (c5 : PySem.W.codeIn K cd5 "_law_row" = true) (k5 : PySem.W.keepIn K (.ref g5) = true) (a6 : PySem.W.nsIn K mainGlobals "_law_near" = some (some (.ref g6))) (l6 : K.lookup g6 = some ⟨oc6, od6, .func (PySem.W.fnOf "_law_near" "_law_near" (defArgs s_law_near) (defBody s_law_near) (defScope s_law_near) .none kV6 dc6 pm6 an6 cd6 ct6), sl6⟩) (c6 : PySem.W.codeIn K cd6 "_law_near" = true) (k6 : PySem.W.keepIn K (.ref g6) = true) (a7 : PySem.W.nsIn K mainGlobals "_law_scale" = some (some (.ref g7))) (l7 : K.lookup g7 = some ⟨oc7, od7, .func (PySem.W.fnOf "_law_scale" "_law_scale" (defArgs s_law_scale) (defBody s_law_scale) (defScope s_law_scale) .none kV7 dc7 pm7 an7 cd7 ct7), sl7⟩) (c7 : PySem.W.codeIn K cd7 "_law_scale" = true) (k7 : PySem.W.keepIn K (.ref g7) = true) (a8 : PySem.W.nsIn K mainGlobals "_law_worth" = some (some (.ref g8))) (l8 : K.lookup g8 = some ⟨oc8, od8, .func (PySem.W.fnOf "_law_worth" "_law_worth" (defArgs s_law_worth) (defBody s_law_worth) (defScope s_law_worth) .none kV8 dc8 pm8 an8 cd8 ct8), sl8⟩) (c8 : PySem.W.codeIn K cd8 "_law_worth" = true) (k8 : PySem.W.keepIn K (.ref g8) = true) (a9 : PySem.W.nsIn K mainGlobals "_law_lane" = some (some (.ref g9))) (l9 : K.lookup g9 = some ⟨oc9, od9, .func (PySem.W.fnOf "_law_lane" "_law_lane" (defArgs s_law_lane) (defBody s_law_lane) (defScope s_law_lane) .none kV9 dc9 pm9 an9 cd9 ct9), sl9⟩) (c9 : PySem.W.codeIn K cd9 "_law_lane" = true) (k9 : PySem.W.keepIn K (.ref g9) = true) (a10 : PySem.W.nsIn K mainGlobals "_law_same" = some (some (.ref g10))) (l10 : K.lookup g10 = some ⟨oc10, od10, .func (PySem.W.fnOf "_law_same" "_law_same" (defArgs s_law_same) (defBody s_law_same) (defScope s_law_same) .none kV10 dc10 pm10 an10 cd10 ct10), sl10⟩) (c10 : PySem.W.codeIn K cd10 "_law_same" = true) (k10 : PySem.W.keepIn K (.ref g10) = true) (a11 : PySem.W.nsIn K mainGlobals "law" = some (some (.ref g11))) (l11 : K.lookup g11 = some ⟨oc11, od11, .func (PySem.W.fnOf "law" "law" (defArgs slaw) (defBody slaw) (defScope slaw) .none kV11 dc11 pm11 an11 cd11 ct11), sl11⟩) (c11 : PySem.W.codeIn K cd11 "law" = true) (k11 : PySem.W.keepIn K (.ref g11) = true) (z_max : PySem.W.nsIn K mainGlobals "max" = some none) (z_min : PySem.W.nsIn K mainGlobals "min" = some none) (z_len : PySem.W.nsIn K mainGlobals "len" = some none) (z_range : PySem.W.nsIn K mainGlobals "range" = some none) (z_int : PySem.W.nsIn K mainGlobals "int" = some none) (z_isinstance : PySem.W.nsIn K mainGlobals "isinstance" = some none) (z_str : PySem.W.nsIn K mainGlobals "str" = some none) (z_list : PySem.W.nsIn K mainGlobals "list" = some none) (z_tuple : PySem.W.nsIn K mainGlobals "tuple" = some none) (z_bool : PySem.W.nsIn K mainGlobals "bool" = some none) (y_LIKE : PySem.W.nsIn K mainGlobals "LIKE" = some (some (Value.str "=" t_LIKE))) (y_UNLIKE : PySem.W.nsIn K mainGlobals "UNLIKE" = some (some (Value.str "/" t_UNLIKE))) :
    ∃ fd : FuncData, (∀ (s : Shared) (v : Value), BindsTo s fd ⟨[v], []⟩ [("_law_script", v)]) ∧ ∀ base : Heap, K.In base → base.Ns mainGlobals mg → FnOk l.prog w K mg base CX0 13 fa fd ["_law_script"] (splaw K) := by
  have e := hfa.symm.trans (PySem.W.mg_of X G a11)
  cases e
  have F0 := fun_mk (st := slane_begin) l0 c0 k0
  have F1 := fun_mk (st := slikes_of) l1 c1 k1
  have F2 := fun_mk (st := sworth_of) l2 c2 k2
  have F3 := fun_mk (st := s_law_next) l3 c3 k3
  have F4 := fun_mk (st := s_law_letters) l4 c4 k4
  have F5 := fun_mk (st := s_law_row) l5 c5 k5
  have F6 := fun_mk (st := s_law_near) l6 c6 k6
  have F7 := fun_mk (st := s_law_scale) l7 c7 k7
  have F8 := fun_mk (st := s_law_worth) l8 c8 k8
  have F9 := fun_mk (st := s_law_lane) l9 c9 k9
  have F10 := fun_mk (st := s_law_same) l10 c10 k10
  have F11 := fun_mk (st := slaw) l11 c11 k11
  have b0 := F0.binds (ps := ["shift"]) fun _ _ _ _ _ _ us hl => match us, hl with | [_], _ => rfl
  have b1 := F1.binds (ps := ["one", "other", "shift"]) fun _ _ _ _ _ _ us hl => match us, hl with | [_, _, _], _ => rfl
  have b2 := F2.binds (ps := ["likes", "scale"]) fun _ _ _ _ _ _ us hl => match us, hl with | [_, _], _ => rfl
  have b3 := F3.binds (ps := ["_law_h", "_law_many"]) fun _ _ _ _ _ _ us hl => match us, hl with | [_, _], _ => rfl
  have b4 := F4.binds (ps := ["_law_h"]) fun _ _ _ _ _ _ us hl => match us, hl with | [_], _ => rfl
  have b5 := F5.binds (ps := ["_law_h", "_law_letters_here", "_law_most"]) fun _ _ _ _ _ _ us hl => match us, hl with | [_, _, _], _ => rfl
  have b6 := F6.binds (ps := ["_law_h", "_law_row_here", "_law_letters_here"]) fun _ _ _ _ _ _ us hl => match us, hl with | [_, _, _], _ => rfl
  have b7 := F7.binds (ps := ["_law_h"]) fun _ _ _ _ _ _ us hl => match us, hl with | [_], _ => rfl
  have b8 := F8.binds (ps := ["_law_likes", "_law_scale_here"]) fun _ _ _ _ _ _ us hl => match us, hl with | [_, _], _ => rfl
  have b9 := F9.binds (ps := ["_law_one", "_law_other", "_law_shift"]) fun _ _ _ _ _ _ us hl => match us, hl with | [_, _, _], _ => rfl
  have b10 := F10.binds (ps := ["_law_found", "_law_due"]) fun _ _ _ _ _ _ us hl => match us, hl with | [_, _], _ => rfl
  have B : Bl mg := ⟨PySem.W.mg_none_of X G z_max, PySem.W.mg_none_of X G z_min, PySem.W.mg_none_of X G z_len, PySem.W.mg_none_of X G z_range, PySem.W.mg_none_of X G z_int, PySem.W.mg_none_of X G z_isinstance, PySem.W.mg_none_of X G z_str, PySem.W.mg_none_of X G z_list, PySem.W.mg_none_of X G z_tuple, PySem.W.mg_none_of X G z_bool⟩
  have C : Cs mg _ _ := ⟨⟨⟨_, rfl⟩, PySem.W.mg_of X G y_LIKE⟩, ⟨⟨_, rfl⟩, PySem.W.mg_of X G y_UNLIKE⟩⟩
  refine ⟨PySem.W.fnOf "law" "law" (defArgs slaw) (defBody slaw) (defScope slaw) .none kV11 dc11 pm11 an11 cd11 ct11, fun s v => .of_eq rfl, fun base _ _ => ?_⟩
  have Dlane_begin : Dn l.prog w K mg base "lane_begin" 1 ["shift"] (splane_begin K) g0 _ := ⟨oklane_begin F0 B, PySem.W.mg_of X G a0, F0.kp, b0⟩
  have Dlikes_of : Dn l.prog w K mg base "likes_of" 2 ["one", "other", "shift"] (splikes_of K) g1 _ := ⟨oklikes_of F1 B C Dlane_begin, PySem.W.mg_of X G a1, F1.kp, b1⟩
  have Dworth_of : Dn l.prog w K mg base "worth_of" 1 ["likes", "scale"] (spworth_of K) g2 _ := ⟨okworth_of F2 B C, PySem.W.mg_of X G a2, F2.kp, b2⟩
  have D_law_next : Dn l.prog w K mg base "_law_next" 1 ["_law_h", "_law_many"] (sp_law_next K) g3 _ := ⟨ok_law_next F3 B, PySem.W.mg_of X G a3, F3.kp, b3⟩
  have D_law_letters : Dn l.prog w K mg base "_law_letters" 2 ["_law_h"] (sp_law_letters K) g4 _ := ⟨ok_law_letters F4 B D_law_next, PySem.W.mg_of X G a4, F4.kp, b4⟩
  have D_law_row : Dn l.prog w K mg base "_law_row" 2 ["_law_h", "_law_letters_here", "_law_most"] (sp_law_row K) g5 _ := ⟨ok_law_row F5 B D_law_next, PySem.W.mg_of X G a5, F5.kp, b5⟩
  have D_law_near : Dn l.prog w K mg base "_law_near" 3 ["_law_h", "_law_row_here", "_law_letters_here"] (sp_law_near K) g6 _ := ⟨ok_law_near F6 B D_law_row D_law_next, PySem.W.mg_of X G a6, F6.kp, b6⟩
  have D_law_scale : Dn l.prog w K mg base "_law_scale" 2 ["_law_h"] (sp_law_scale K) g7 _ := ⟨ok_law_scale F7 B D_law_next, PySem.W.mg_of X G a7, F7.kp, b7⟩
  have D_law_worth : Dn l.prog w K mg base "_law_worth" 1 ["_law_likes", "_law_scale_here"] (sp_law_worth K) g8 _ := ⟨ok_law_worth F8 B, PySem.W.mg_of X G a8, F8.kp, b8⟩
  have D_law_lane : Dn l.prog w K mg base "_law_lane" 1 ["_law_one", "_law_other", "_law_shift"] (sp_law_lane K) g9 _ := ⟨ok_law_lane F9 B, PySem.W.mg_of X G a9, F9.kp, b9⟩
  have D_law_same : Dn l.prog w K mg base "_law_same" 12 ["_law_found", "_law_due"] (sp_law_same K) g10 _ := ⟨ok_law_same F10 B (PySem.W.mg_of X G a10) b10, PySem.W.mg_of X G a10, F10.kp, b10⟩
  exact oklaw F11 B D_law_letters D_law_scale D_law_row D_law_next D_law_lane D_law_same D_law_near Dworth_of Dlikes_of D_law_worth
end Sr
open PySem PySem.W PyProof.Rows
set_option maxHeartbeats 0 in
theorem PySem.Challenge.cw_seedreach_k01_likes_and_worths_holds : PySem.Challenge.rw_seedreach_k01_likes_and_worths.Holds := by
  w_on; o_law; k_head; (case hw => w_witness2)
  k_fill
  refine L2.walk_of (l := PySem.Challenge.rw_seedreach_k01_likes_and_worths) (n := 63) (k := 13) (x := "_law_script") (CX := fun _ => L2.CX0) (sp := fun w => Sr.splaw _) rfl (by decide) rfl ⟨rfl, by decide, by decide⟩ (fun w h Y => PySem.W.kIn_of Y) ?F (fun _ _ a ns hl _ hS => ⟨a, ns, rfl, hS, hl, fun _ => rfl⟩) (fun _ _ _ _ _ h => h)
  case F =>
    intro w mg fa h KX G hmg
    refine' Sr.all_mk KX G hmg ?a0 ?l0 ?c0 ?k0 ?a1 ?l1 ?c1 ?k1 ?a2 ?l2 ?c2 ?k2 ?a3 ?l3 ?c3 ?k3 ?a4 ?l4 ?c4 ?k4 ?a5 ?l5 ?c5 ?k5 ?a6 ?l6 ?c6 ?k6 ?a7 ?l7 ?c7 ?k7 ?a8 ?l8 ?c8 ?k8 ?a9 ?l9 ?c9 ?k9 ?a10 ?l10 ?c10 ?k10 ?a11 ?l11 ?c11 ?k11 ?z_max ?z_min ?z_len ?z_range ?z_int ?z_isinstance ?z_str ?z_list ?z_tuple ?z_bool ?y_LIKE ?y_UNLIKE
    (case a0 => k_is)
    (case l0 => k_is)
    (case c0 => k_is)
    (case k0 => k_is)
    (case a1 => k_is)
    (case l1 => k_is)
    (case c1 => k_is)
    (case k1 => k_is)
    (case a2 => k_is)
    (case l2 => k_is)
    (case c2 => k_is)
    (case k2 => k_is)
    (case a3 => k_is)
    (case l3 => k_is)
    (case c3 => k_is)
    (case k3 => k_is)
    (case a4 => k_is)
    (case l4 => k_is)
    (case c4 => k_is)
    (case k4 => k_is)
    (case a5 => k_is)
    (case l5 => k_is)
    (case c5 => k_is)
    (case k5 => k_is)
    (case a6 => k_is)
    (case l6 => k_is)
    (case c6 => k_is)
    (case k6 => k_is)
    (case a7 => k_is)
    (case l7 => k_is)
    (case c7 => k_is)
    (case k7 => k_is)
    (case a8 => k_is)
    (case l8 => k_is)
    (case c8 => k_is)
    (case k8 => k_is)
    (case a9 => k_is)
    (case l9 => k_is)
    (case c9 => k_is)
    (case k9 => k_is)
    (case a10 => k_is)
    (case l10 => k_is)
    (case c10 => k_is)
    (case k10 => k_is)
    (case a11 => k_is)
    (case l11 => k_is)
    (case c11 => k_is)
    (case k11 => k_is)
    (case z_max => k_is)
    (case z_min => k_is)
    (case z_len => k_is)
    (case z_range => k_is)
    (case z_int => k_is)
    (case z_isinstance => k_is)
    (case z_str => k_is)
    (case z_list => k_is)
    (case z_tuple => k_is)
    (case z_bool => k_is)
    (case y_LIKE => k_is)
    (case y_UNLIKE => k_is)
